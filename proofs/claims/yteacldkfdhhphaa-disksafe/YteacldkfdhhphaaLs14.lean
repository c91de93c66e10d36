/- DiskSafe's walk. -/
import Derived.Test.YteacldkfdhhphaaSc14
import Derived.Deep.RegionHeld2
set_option linter.unusedVariables false
set_option linter.unusedSimpArgs false
set_option maxRecDepth 40000
namespace Go.Proofs.Yteacldkfdhhphaa
open Go.RowKit

/-- The parts over lists. -/
theorem safe_start : Run 96 0 (newD (Int.toNat 24)) := ⟨Fit.new (by decide), by kernel_rfl, Nat.zero_le _⟩
theorem safe_mid {i : Nat} {d : DM} (h : Run 96 i d) (b : Bs) (hb : b.length = 256) : ∃ d1 d2, Fit (crashD d []) ∧ writeD (crashD d []) 7 b = (d1, 0) ∧ Fit d1 ∧ flushD d1 = (d2, 0) ∧ Run 96 0 d2 ∧ KeepB 7 b d2 := by
  have h0 := h.fit.crash []
  have hc := crash_size d []
  obtain ⟨k1, k2, k3⟩ := keep_made h0.ok rfl rfl rfl 7 (by rw [hc.1, h.s]; omega) b hb
  obtain ⟨⟨d1, z1⟩, e1⟩ : ∃ x, writeD (crashD d []) ((7 : Nat) : Int) b = x := ⟨_, rfl⟩
  have f1 := h0.write (by rw [hc.2]; decide) 7 b
  have e1' : writeD (crashD d []) 7 b = (d1, z1) := e1
  have s1 := write_size (crashD d []) 7 b
  rw [e1'] at f1 s1
  rw [e1] at k1 k2 k3
  simp only [] at k1 k2 k3 f1 s1
  subst k1
  obtain ⟨⟨d2, z2⟩, e2⟩ : ∃ x, flushD d1 = x := ⟨_, rfl⟩
  have f2 := f1.flush
  have s2 := flush_size d1
  have l2 : (flushD d1).1.l = [] := by
    have hk := k2
    unfold flushD at hk ⊢
    split
    · rfl
    · rename_i hh
      rw [if_neg hh] at hk
      simp at hk
  rw [e2] at k2 k3 f2 s2 l2
  simp only [] at k2 k3 f2 s2 l2
  subst k2
  exact ⟨d1, d2, h0, e1', f1, e2, ⟨f2, by rw [s2.1, s1.1, hc.1, h.s], by rw [l2]; exact Nat.zero_le _⟩, k3⟩
theorem safe_end {i : Nat} {d : DM} (h : Run 96 i d) (b : Bs) (hb : b.length = 256) (hk : KeepB 7 b d) : Fit (crashD d []) ∧ readD (crashD d []) 7 = (b, 0) :=
  ⟨h.fit.crash [], keep_read (n := 7) (keep_crash hk []) hb rfl (by rw [(crash_size d []).1, h.s]; omega)⟩
set_option maxHeartbeats 8000000 in
theorem diskSafe_walk (v0 : Value) (l0 : List AV) (v1 : Value) (b : Bs) (v2 : Value) (l2 : List AV) (w : World) (hS0 : IsS w v0 l0) (hO0 : ∀ a ∈ l0, OkA a) (hL0 : l0.length ≤ 9223372036854775807) (hY : IsY w v1 b) (hYl : b.length ≤ 9223372036854775807) (hS2 : IsS w v2 l2) (hO2 : ∀ a ∈ l2, OkA a) (hL2 : l2.length ≤ 9223372036854775807) :
    Calls Try.prog 5 #[v0, v1, v2] w fun e w' => e = .returned (.bool true) ∧ Below w.heap.size w w' := by
  have HN := hide (live_new 24 w w (Below.refl _ _) (by omega))
  obtain ⟨a0, c0, rfl⟩ := hS0.form
  obtain ⟨a1, c1, rfl⟩ := hY.form
  obtain ⟨a2, c2, rfl⟩ := hS2.form
  by_cases hbl : 300 < b.length
  · have hbl2 : (300 : Int) < b.length := by omega
    clear hY hS0 hS2 hO0 hO2 hL0 hL2 hYl hbl
    generalize b.length = bl at *
    generalize l0.length = n0 at *
    generalize l2.length = n2 at *
    go_enter Try.func5, Try.ntmps5
    go_wp2_with fail
    refine HN.out.mono ?_
    rintro e x0 ⟨a, rfl, L0⟩
    have HZ := hide L0.out.b
    clear HN L0
    go_wp2
    go_ret
    exact ⟨rfl, HZ.out⟩
  have hbl2 : ¬ (300 : Int) < b.length := by omega
  have HA0 : Hid (∀ i (hi : i < l0.length), ∃ g o, a0 = some ⟨g, o, none⟩ ∧ (∀ x, Below w.heap.size w x → x.cell? ⟨g, o + i * 5, none⟩ = some (.int .i64 l0[i].kind) ∧ x.cell? ⟨g, o + i * 5 + 1, none⟩ = some (.int .i64 l0[i].n) ∧ x.cell? ⟨g, o + i * 5 + 2, none⟩ = some l0[i].bv ∧ x.cell? ⟨g, o + i * 5 + 3, none⟩ = some (.bool l0[i].short) ∧ x.cell? ⟨g, o + i * 5 + 4, none⟩ = some l0[i].kv) ∧ IsY w l0[i].bv l0[i].b ∧ IsF w l0[i].kv l0[i].keep ∧ OkA l0[i]) := hide (fun i hi => by
    obtain ⟨g, o, e, _, h1, h2, h3⟩ := hS0.at_ i hi
    exact ⟨g, o, e, h1, h2, h3, hO0 _ (List.getElem_mem hi)⟩)
  have HA2 : Hid (∀ i (hi : i < l2.length), ∃ g o, a2 = some ⟨g, o, none⟩ ∧ (∀ x, Below w.heap.size w x → x.cell? ⟨g, o + i * 5, none⟩ = some (.int .i64 l2[i].kind) ∧ x.cell? ⟨g, o + i * 5 + 1, none⟩ = some (.int .i64 l2[i].n) ∧ x.cell? ⟨g, o + i * 5 + 2, none⟩ = some l2[i].bv ∧ x.cell? ⟨g, o + i * 5 + 3, none⟩ = some (.bool l2[i].short) ∧ x.cell? ⟨g, o + i * 5 + 4, none⟩ = some l2[i].kv) ∧ IsY w l2[i].bv l2[i].b ∧ IsF w l2[i].kv l2[i].keep ∧ OkA l2[i]) := hide (fun i hi => by
    obtain ⟨g, o, e, _, h1, h2, h3⟩ := hS2.at_ i hi
    exact ⟨g, o, e, h1, h2, h3, hO2 _ (List.getElem_mem hi)⟩)
  have HSM : Hid (∀ x (a : AV), Below w.heap.size w x → IsY w a.bv a.b → IsF w a.kv a.keep → Calls Try.prog 12 #[acA a] x fun e y => e = .returned (.bool (smallA a)) ∧ Hid (Below x.heap.size x y)) := hide (fun x a hb hy hf => live_small hb hy hf)
  have HPL : Hid (∀ v x (a : AV) (i : Nat) d, i ≤ 100 → Run 96 i d → Liv w v d x → IsY w a.bv a.b → IsF w a.kv a.keep → OkA a → smallA a = true → Calls Try.prog 13 #[v, acA a] x fun e y => ∃ z : Int, e = .returned (.int .i64 z) ∧ Hid (Run 96 (i + 1) (modelD d a).1) ∧ Hid (Liv w v (modelD d a).1 y)) := hide (fun v x a i d hi hr hl hy hf ho hs => (live_play hr.fit hl hy hf ho hs).mono fun e y hh => ⟨_, hh.1, hide (hr.act (by omega) a ho), hh.2⟩)
  have HCR : Hid (∀ a x d, Fit d → Liv w (.pointer (some a)) d x → Calls Try.prog 22 #[.pointer (some a), .slice none 0 0] x fun e y => e = .returned (.tuple #[]) ∧ Hid (Liv w (.pointer (some a)) (crashD d []) y)) := hide (fun a x d hf hl => live_crash hf hl (Below.refl _ _) (.inl ⟨rfl, _, _, rfl⟩) (by simp) (fun h => absurd rfl h))
  have HBN : Hid (∀ x : World, Below w.heap.size w x → Calls Try.prog 24 #[.slice a1 b.length c1] x fun e x1 => ∃ (p : Option Addr) (c : Nat), e = .returned (.slice p 256 c) ∧ Hid (NewY x.heap.size x1 (.slice p 256 c) (blockB b)) ∧ Hid (Below x.heap.size x x1)) := hide (fun x hb => (rblock_any _ b _ (hY.below hb) (by omega)).mono fun e x1 hh => by
    obtain ⟨v, rfl, ho, hb⟩ := hh
    obtain ⟨p, c, rfl⟩ := owns_formG ho
    exact ⟨p, c, rfl, hide (owns_newY (l := blockB b) (by rw [block_len]; exact ho)), hide hb⟩)
  have HWL : Hid (∀ a x x1 u d d1 (z : Int), Fit d → writeD d 7 (blockB b) = (d1, z) → Liv w (.pointer (some a)) d x → Below x.heap.size x x1 → NewY x.heap.size x1 u (blockB b) → Calls Try.prog 23 #[.pointer (some a), .int .i64 7, u] x1 fun e y => e = .returned (.int .i64 z) ∧ Hid (Liv w (.pointer (some a)) d1 y)) := hide (fun a x x1 u d d1 z hf hz hl hb hy => (live_write (n := 7) hf hl hb hy (by rw [block_len]; omega)).mono fun e y hh => by
    rw [hz] at hh
    exact hh)
  have HFL : Hid (∀ a x d d1 (z : Int), Fit d → flushD d = (d1, z) → Liv w (.pointer (some a)) d x → Calls Try.prog 25 #[.pointer (some a)] x fun e y => e = .returned (.int .i64 z) ∧ Hid (Liv w (.pointer (some a)) d1 y)) := hide (fun a x d d1 z hf hz hl => (live_flush hf hl).mono fun e y hh => by
    rw [hz] at hh
    exact hh)
  have HRD : Hid (∀ a x d, Fit d → readD d 7 = (blockB b, 0) → Liv w (.pointer (some a)) d x → Calls Try.prog 15 #[.pointer (some a), .int .i64 7] x fun e y => ∃ p c, e = .returned (.tuple #[.slice p 256 c, .int .i64 0]) ∧ Hid (Below w.heap.size w y) ∧ Hid (NewY w.heap.size y (.slice p 256 c) (blockB b))) := hide (fun a x d hf hz hl => (live_read (n := 7) hf hl).mono fun e y hh => by
    obtain ⟨p, c, rfl, hy, hb⟩ := hh
    rw [hz] at hy ⊢
    simp only [block_len] at hy ⊢
    exact ⟨p, c, rfl, hide (hl.below hb.out).b, hide (hy.out.base hl.b.size)⟩)
  have HAL := hide alive_any
  have hblk := block_len b
  have HS0 := hide safe_start
  have HSA := hide (fun i d (h : Run 96 i d) => safe_mid h (blockB b) hblk)
  have HSE := hide (fun i d (h : Run 96 i d) hk => safe_end h (blockB b) hblk hk)
  clear hS0 hS2 hO0 hO2 hYl hbl hblk hY
  go_enter Try.func5, Try.ntmps5
  go_wp2_with fail
  refine HN.out.mono ?_
  rintro e x0 ⟨a, rfl, L0⟩
  clear HN
  generalize hbb : b.length = bl at *
  clear hbb
  go_wp2
  go_loopw [9] (fun vi wr => ∃ (i : Nat), vi = .int .i64 (i : Int) ∧ i ≤ 40 ∧ i ≤ l0.length ∧ ∃ d, Hid (Run 96 i d) ∧ Hid (Liv w (.pointer (some a)) d wr)) (fun vi _ => 40 - (intOf vi).toNat)
  case atStart => exact ⟨0, rfl, Nat.zero_le _, Nat.zero_le _, _, HS0, L0⟩
  case round =>
    clear L0 HS0
    obtain ⟨i, rfl, hi, hi2, d, R, L⟩ := hrel
    by_cases hlt : i < l0.length ∧ i < 40
    · obtain ⟨hl1, hl3⟩ := hlt
      have hl1' : (i : Int) < l0.length := by omega
      have hl3' : (i : Int) < 40 := by omega
      obtain ⟨g, o, rfl, hc, hy, hf, hok⟩ := HA0.out i hl1
      have HC := hide hc
      have HS1 := hide (HSM.out wr l0[i] L.out.b hy hf)
      have HP1 := hide (fun (hs : smallA (l0[i]'hl1) = true) x (hb : Below wr.heap.size wr x) => HPL.out (.pointer (some a)) x l0[i] i d (by omega) R.out (L.out.below hb) hy hf hok hs)
      obtain ⟨z0, z1, z2, z3, z4⟩ := hc wr L.out.b
      have HN2 := hide R.out.next
      have HLB := hide (fun x (hb : Below wr.heap.size wr x) => L.out.below hb)
      obtain ⟨ba, bc, eb⟩ := hy.form
      obtain ⟨ka, kc, ek⟩ := hf.form
      clear HA0 HA2 HSM HPL HCR HBN HWL HFL HRD HAL HSA HSE hc hy hf hok R L
      generalize l0[i] = ac at *
      obtain ⟨kind, n, ab, short, keep, bv, kv⟩ := ac
      simp only [] at eb ek z0 z1 z2 z3 z4 HC
      subst eb ek
      generalize ab.length = abl at *
      generalize keep.length = kl at *
      generalize hsm : smallA ⟨kind, n, ab, short, keep, .slice ba abl bc, .slice ka kl kc⟩ = sm at *
      cases sm
      · clear HP1
        go_wp2_with fail
        refine HS1.out.mono ?_
        rintro e y1 ⟨rfl, b1⟩
        have L1 := hide (HLB.out y1 b1.out)
        clear HS1 HLB b1 HC z0 z1 z2 z3 z4 hsm
        go_wp2
        go_roundw
        case rel => exact ⟨i + 1, by go_num, by omega, by omega, d, HN2, L1⟩
        case measure => simp [intOf]; omega
      · have HP2 := hide (HP1.out rfl)
        clear HP1
        go_wp2_with fail
        refine HS1.out.mono ?_
        rintro e y1 ⟨rfl, b1⟩
        have H1 := hide (HP2.out y1 b1.out)
        have hbw := (HLB.out y1 b1.out).b
        obtain ⟨z0, z1, z2, z3, z4⟩ := HC.out y1 hbw
        clear HS1 HLB b1 HC HP2 hbw hsm
        go_wp2_with fail
        refine H1.out.mono ?_
        rintro e y2 ⟨z, rfl, R2, L2⟩
        clear H1 z0 z1 z2 z3 z4
        go_wp2
        go_roundw
        case rel => exact ⟨i + 1, by go_num, by omega, by omega, _, R2, L2⟩
        case measure => simp [intOf]; omega
    · have hstop : ¬ ((i : Int) < l0.length ∧ (i : Int) < 40) := by omega
      obtain ⟨d1, d2, f0, e1, f1, e2, R2, K2⟩ := HSA.out i d R.out
      have H1 := hide (HCR.out a wr d R.out.fit L.out)
      have HE1 := hide e1
      have HE2 := hide e2
      have HR2 := hide R2
      have HK2 := hide K2
      clear e1 e2 R2 K2 R L HSA HA0
      rcases (by omega : ¬ ((i : Int) < l0.length) ∨ ((i : Int) < l0.length ∧ ¬ (i : Int) < 40)) with hq | ⟨hq, hq2⟩
      all_goals
        go_wp2_with fail
        refine H1.out.mono ?_
        rintro e x1 ⟨rfl, L1⟩
        have HB1 := hide (HBN.out x1 L1.out.b)
        clear H1
        go_wp2_with fail
        refine HB1.out.mono ?_
        rintro e x2 ⟨p, c, rfl, y2, b2⟩
        have H2 := hide (HWL.out a x1 x2 _ _ d1 0 f0 HE1.out L1.out b2.out y2.out)
        clear HB1 L1 y2 b2 HWL HE1
        go_wp2_with fail
        refine H2.out.mono ?_
        rintro e x3 ⟨rfl, L2⟩
        have H3 := hide (HFL.out a x3 d1 d2 0 f1 HE2.out L2.out)
        clear H2 HFL L2 HE2
        go_wp2_with fail
        refine H3.out.mono ?_
        rintro e x4 ⟨rfl, L3⟩
        clear H3
        go_wp2
        generalize wr = wq at *
        go_loopw [12] (fun vi wr => ∃ (i : Nat), vi = .int .i64 (i : Int) ∧ i ≤ 40 ∧ i ≤ l2.length ∧ ∃ d, Hid (Run 96 i d) ∧ Hid (KeepB 7 (blockB b) d) ∧ Hid (Liv w (.pointer (some a)) d wr)) (fun vi _ => 40 - (intOf vi).toNat)
        case atStart => exact ⟨0, rfl, Nat.zero_le _, Nat.zero_le _, _, HR2, HK2, L3⟩
        case round =>
          clear L3 HR2 HK2 f0 f1
          try clear hq2
          clear hq hstop hi hi2 hlt
          obtain ⟨i, rfl, hi, hi2, d, R, K, L⟩ := hrel
          by_cases hlt : i < l2.length ∧ i < 40
          · obtain ⟨hl1, hl3⟩ := hlt
            have hl1' : (i : Int) < l2.length := by omega
            have hl3' : (i : Int) < 40 := by omega
            obtain ⟨g, o, rfl, hc, hy, hf, hok⟩ := HA2.out i hl1
            have HC := hide hc
            have HS1 := hide (HSM.out wr l2[i] L.out.b hy hf)
            have HP1 := hide (fun (hs : smallA (l2[i]'hl1) = true) x (hb : Below wr.heap.size wr x) => HPL.out (.pointer (some a)) x l2[i] i d (by omega) R.out (L.out.below hb) hy hf hok hs)
            have HKM := hide (fun (h : ¬ ((l2[i]'hl1).kind = 1 ∧ (l2[i]'hl1).n = ((7 : Nat) : Int))) => keep_model K.out (l2[i]'hl1) h)
            obtain ⟨z0, z1, z2, z3, z4⟩ := hc wr L.out.b
            have HN2 := hide R.out.next
            have HLB := hide (fun x (hb : Below wr.heap.size wr x) => L.out.below hb)
            obtain ⟨ba, bc, eb⟩ := hy.form
            obtain ⟨ka, kc, ek⟩ := hf.form
            clear HA2 HSM HPL HCR HBN HRD HAL HSE hc hy hf hok R L
            generalize l2[i] = ac at *
            obtain ⟨kind, n, ab, short, keep, bv, kv⟩ := ac
            simp only [] at eb ek z0 z1 z2 z3 z4 HC HKM
            subst eb ek
            generalize ab.length = abl at *
            generalize keep.length = kl at *
            generalize hsm : smallA ⟨kind, n, ab, short, keep, .slice ba abl bc, .slice ka kl kc⟩ = sm at *
            cases sm
            · clear HP1 HKM
              go_wp2_with fail
              refine HS1.out.mono ?_
              rintro e y1 ⟨rfl, b1⟩
              have L1 := hide (HLB.out y1 b1.out)
              clear HS1 HLB b1 HC z0 z1 z2 z3 z4 hsm
              go_wp2
              go_roundw
              case rel => exact ⟨i + 1, by go_num, by omega, by omega, d, HN2, K, L1⟩
              case measure => simp [intOf]; omega
            · have HP2 := hide (HP1.out rfl)
              clear HP1
              by_cases h17 : kind = 1 ∧ n = 7
              · obtain ⟨rfl, rfl⟩ := h17
                clear HKM HP2
                go_wp2_with fail
                refine HS1.out.mono ?_
                rintro e y1 ⟨rfl, b1⟩
                have L1 := hide (HLB.out y1 b1.out)
                have hbw := (HLB.out y1 b1.out).b
                obtain ⟨z0, z1, z2, z3, z4⟩ := HC.out y1 hbw
                clear HS1 HLB b1 HC hsm hbw z2 z3 z4
                go_wp2
                go_roundw
                case rel => exact ⟨i + 1, by go_num, by omega, by omega, d, HN2, K, L1⟩
                case measure => simp [intOf]; omega
              · have HK3 := hide (HKM.out h17)
                have hno : (kind == 1) = false ∨ ((kind == 1) = true ∧ (n == 7) = false) := by
                  by_cases hk1 : kind = 1
                  · exact .inr ⟨by simp [hk1], by rw [beq_eq_false_iff_ne]; exact fun e => h17 ⟨hk1, e⟩⟩
                  · exact .inl (by rw [beq_eq_false_iff_ne]; exact hk1)
                clear HKM h17
                rcases hno with hk1 | ⟨hk1, hk2⟩
                all_goals
                  go_wp2_with fail
                  refine HS1.out.mono ?_
                  rintro e y1 ⟨rfl, b1⟩
                  have H1 := hide (HP2.out y1 b1.out)
                  have hbw := (HLB.out y1 b1.out).b
                  obtain ⟨z0, z1, z2, z3, z4⟩ := HC.out y1 hbw
                  clear HS1 HLB b1 HC HP2 hbw hsm
                  go_wp2_with fail
                  refine H1.out.mono ?_
                  rintro e y2 ⟨z, rfl, R2, L2⟩
                  clear H1 z0 z1 z2 z3 z4
                  go_wp2
                  go_roundw
                  case rel => exact ⟨i + 1, by go_num, by omega, by omega, _, R2, HK3, L2⟩
                  case measure => simp [intOf]; omega
          · obtain ⟨f2, e2⟩ := HSE.out i d R.out K.out
            have H1 := hide (HCR.out a wr d R.out.fit L.out)
            have HE2 := hide e2
            clear e2 HSE R K L HA2 HSM HPL HCR
            rcases (by omega : ¬ ((i : Int) < l2.length) ∨ ((i : Int) < l2.length ∧ ¬ (i : Int) < 40)) with hq | ⟨hq, hq2⟩
            all_goals
              go_wp2_with fail
              refine H1.out.mono ?_
              rintro e x8 ⟨rfl, L1⟩
              have H2 := hide (HRD.out a x8 _ f2 HE2.out L1.out)
              clear H1 HRD HE2 L1
              go_wp2_with fail
              refine H2.out.mono ?_
              rintro e x9 ⟨p9, c9, rfl, b9, y9⟩
              have HCV : Hid (∀ W, Below x9.heap.size x9 W → (convert 34 9 (.slice p9 256 c9)).run Try.prog W = .ok (.string ⟨(blockB b).toArray⟩) W) := hide (fun W hb => conv_newY (y9.out.below hb))
              have HBX := hide (fun W (hb : Below x9.heap.size x9 W) => b9.out.trans (hb.mono b9.out.size))
              clear H2 y9 b9
              go_wp2_with fail
              refine wp_region_held_drew (S := fun W' => Below x9.heap.size x9 W') (by kernel_rfl) (Below.refl _ x9).drew (fun hHeld => ?_)
              refine wpAnyH_ready (rs := [0]) (by kernel_rfl) (by simp) ?_
              refine AllReadyH.cons rfl (fun K hK => ?_) AllReadyH.nil
              go_simp
              go_wp2_with (first | (go_at_call 20; refine (HAL.out _).mono ?_; rintro e y0 ⟨rfl, b9⟩))
              refine hK.out _ _ ?_ (fun hHeld => ?_)
              · exact Below.trans hHeld (b9.mono hHeld.size)
              clear hK K
              try simp only [Act.put, List.getElem_toArray, List.getElem_cons_zero, List.getElem_cons_succ, List.setIfInBounds_toArray, List.set_cons_zero, List.set_cons_succ]
              clear b9
              refine wpAnyH_take (i := 1) (v := .bool true) rfl (by kernel_rfl) (by kernel_rfl) (by kernel_rfl) (fun _ _ _ h => h) (Or.inl ⟨by kernel_rfl, fun _ _ => by go_simp⟩) hHeld ?_
              simp only [Act.put, List.getElem_toArray, List.getElem_cons_zero, List.getElem_cons_succ, List.setIfInBounds_toArray, List.set_cons_zero, List.set_cons_succ]
              refine wpAnyH_take (i := 2) (v := ?_) rfl (by kernel_rfl) (by kernel_rfl) (by kernel_rfl) (fun _ _ _ h => h) (Or.inl ⟨by kernel_rfl, ?_⟩) hHeld ?_
              rotate_left
              · intro W hSw
                clear hSw
                go_simp <;> with_reducible rfl
              simp only [Act.put, List.getElem_toArray, List.getElem_cons_zero, List.getElem_cons_succ, List.setIfInBounds_toArray, List.set_cons_zero, List.set_cons_succ]
              refine wpAnyH_take (i := 3) (v := .bool true) rfl (by kernel_rfl) (by kernel_rfl) (by kernel_rfl) (fun _ _ _ h => h) (Or.inl ⟨by kernel_rfl, fun _ _ => by go_simp⟩) hHeld ?_
              simp only [Act.put, List.getElem_toArray, List.getElem_cons_zero, List.getElem_cons_succ, List.setIfInBounds_toArray, List.set_cons_zero, List.set_cons_succ]
              refine wpAnyH_take (i := 4) (v := .bool true) rfl (by kernel_rfl) (by kernel_rfl) (by kernel_rfl) (fun _ _ _ h => h) (Or.inl ⟨by kernel_rfl, fun _ _ => by go_simp⟩) hHeld ?_
              simp only [Act.put, List.getElem_toArray, List.getElem_cons_zero, List.getElem_cons_succ, List.setIfInBounds_toArray, List.set_cons_zero, List.set_cons_succ]
              refine wpAnyH_take (i := 5) (v := .bool true) rfl (by kernel_rfl) (by kernel_rfl) (by kernel_rfl) (fun _ _ _ h => h) (Or.inl ⟨by kernel_rfl, fun _ _ => by go_simp⟩) hHeld ?_
              simp only [Act.put, List.getElem_toArray, List.getElem_cons_zero, List.getElem_cons_succ, List.setIfInBounds_toArray, List.set_cons_zero, List.set_cons_succ]
              refine wpAnyH_take (i := 6) (v := ?_) rfl (by kernel_rfl) (by kernel_rfl) (by kernel_rfl) (fun _ _ _ h => h) (Or.inl ⟨by kernel_rfl, ?_⟩) hHeld ?_
              rotate_left
              · intro W hSw
                clear hSw
                go_simp <;> with_reducible rfl
              simp only [Act.put, List.getElem_toArray, List.getElem_cons_zero, List.getElem_cons_succ, List.setIfInBounds_toArray, List.set_cons_zero, List.set_cons_succ]
              refine wpAnyH_take (i := 7) (v := .bool true) rfl (by kernel_rfl) (by kernel_rfl) (by kernel_rfl) (fun _ _ _ h => h) (Or.inl ⟨by kernel_rfl, fun _ _ => by go_simp⟩) hHeld ?_
              simp only [Act.put, List.getElem_toArray, List.getElem_cons_zero, List.getElem_cons_succ, List.setIfInBounds_toArray, List.set_cons_zero, List.set_cons_succ]
              refine wpAnyH_take (i := 8) (v := .bool true) rfl (by kernel_rfl) (by kernel_rfl) (by kernel_rfl) (fun _ _ _ h => h) (Or.inl ⟨by kernel_rfl, fun _ _ => by go_simp⟩) hHeld ?_
              simp only [Act.put, List.getElem_toArray, List.getElem_cons_zero, List.getElem_cons_succ, List.setIfInBounds_toArray, List.set_cons_zero, List.set_cons_succ]
              refine wpAnyH_take (i := 9) (v := .bool true) rfl (by kernel_rfl) (by kernel_rfl) (by kernel_rfl) (fun _ _ _ h => h) (Or.inl ⟨by kernel_rfl, fun _ _ => by go_simp⟩) hHeld ?_
              simp only [Act.put, List.getElem_toArray, List.getElem_cons_zero, List.getElem_cons_succ, List.setIfInBounds_toArray, List.set_cons_zero, List.set_cons_succ]
              refine wpAnyH_take (i := 10) (v := ?_) rfl (by kernel_rfl) (by kernel_rfl) (by kernel_rfl) (fun _ _ _ h => h) (Or.inl ⟨by kernel_rfl, ?_⟩) hHeld ?_
              rotate_left
              · intro W hSw
                clear hSw
                go_simp <;> with_reducible rfl
              simp only [Act.put, List.getElem_toArray, List.getElem_cons_zero, List.getElem_cons_succ, List.setIfInBounds_toArray, List.set_cons_zero, List.set_cons_succ]
              refine wpAnyH_take (i := 11) (v := .bool true) rfl (by kernel_rfl) (by kernel_rfl) (by kernel_rfl) (fun _ _ _ h => h) (Or.inl ⟨by kernel_rfl, fun _ _ => by go_simp⟩) hHeld ?_
              simp only [Act.put, List.getElem_toArray, List.getElem_cons_zero, List.getElem_cons_succ, List.setIfInBounds_toArray, List.set_cons_zero, List.set_cons_succ]
              refine wpAnyH_take (i := 12) (v := .bool true) rfl (by kernel_rfl) (by kernel_rfl) (by kernel_rfl) (fun _ _ _ h => h) (Or.inl ⟨by kernel_rfl, fun _ _ => by go_simp⟩) hHeld ?_
              simp only [Act.put, List.getElem_toArray, List.getElem_cons_zero, List.getElem_cons_succ, List.setIfInBounds_toArray, List.set_cons_zero, List.set_cons_succ]
              refine wpAnyH_take (i := 13) (v := .bool true) rfl (by kernel_rfl) (by kernel_rfl) (by kernel_rfl) (fun _ _ _ h => h) (Or.inl ⟨by kernel_rfl, fun _ _ => by go_simp⟩) hHeld ?_
              simp only [Act.put, List.getElem_toArray, List.getElem_cons_zero, List.getElem_cons_succ, List.setIfInBounds_toArray, List.set_cons_zero, List.set_cons_succ]
              refine wpAnyH_take (i := 14) (v := ?_) rfl (by kernel_rfl) (by kernel_rfl) (by kernel_rfl) (fun _ _ _ h => h) (Or.inl ⟨by kernel_rfl, ?_⟩) hHeld ?_
              rotate_left
              · intro W hSw
                clear hSw
                go_simp <;> with_reducible rfl
              simp only [Act.put, List.getElem_toArray, List.getElem_cons_zero, List.getElem_cons_succ, List.setIfInBounds_toArray, List.set_cons_zero, List.set_cons_succ]
              refine wpAnyH_take (i := 15) (v := ?_) rfl (by kernel_rfl) (by kernel_rfl) (by kernel_rfl) (fun _ _ _ h => h) (Or.inl ⟨by kernel_rfl, ?_⟩) hHeld ?_
              rotate_left
              · intro W hSw
                have hcv := HCV.out _ hSw
                clear hSw
                go_simp <;> with_reducible rfl
              simp only [Act.put, List.getElem_toArray, List.getElem_cons_zero, List.getElem_cons_succ, List.setIfInBounds_toArray, List.set_cons_zero, List.set_cons_succ]
              refine wpAnyH_take (i := 16) (v := ?_) rfl (by kernel_rfl) (by kernel_rfl) (by kernel_rfl) (fun _ _ _ h => h) (Or.inl ⟨by kernel_rfl, ?_⟩) hHeld ?_
              rotate_left
              · intro W hSw
                clear hSw
                go_simp <;> with_reducible rfl
              simp only [Act.put, List.getElem_toArray, List.getElem_cons_zero, List.getElem_cons_succ, List.setIfInBounds_toArray, List.set_cons_zero, List.set_cons_succ]
              have BD := hide (HBX.out _ hHeld)
              refine wpAnyH_ready (rs := [17]) (by kernel_rfl) (by simp) ?_
              refine AllReadyH.cons rfl (fun K hK => ?_) AllReadyH.nil
              go_simp
              go_wp2_with (first | (go_at_call 24; refine (HBN.out _ BD.out).mono ?_; rintro e y2 ⟨p2, c2, rfl, ny, nb⟩))
              refine hK.out _ _ ?_ (fun hHeld => ?_)
              · exact Below.trans hHeld (nb.out.mono hHeld.size)
              clear hK K
              try simp only [Act.put, List.getElem_toArray, List.getElem_cons_zero, List.getElem_cons_succ, List.setIfInBounds_toArray, List.set_cons_zero, List.set_cons_succ]
              have hcv2 := conv_newY ny.out
              refine wpAnyH_ready (rs := [18]) (by kernel_rfl) (by simp) ?_
              refine AllReadyH.cons rfl (fun K hK => ?_) AllReadyH.nil
              go_simp
              refine hK.out _ _ ?_ (fun hHeld => ?_)
              · exact hHeld
              clear hK K hcv2
              try simp only [Act.put, List.getElem_toArray, List.getElem_cons_zero, List.getElem_cons_succ, List.setIfInBounds_toArray, List.set_cons_zero, List.set_cons_succ]
              refine wpAnyH_take (i := 19) (v := .bool true) rfl (by kernel_rfl) (by kernel_rfl) (by kernel_rfl) (fun _ _ _ h => h) (Or.inl ⟨by kernel_rfl, fun _ _ => by go_simp⟩) hHeld ?_
              simp only [Act.put, List.getElem_toArray, List.getElem_cons_zero, List.getElem_cons_succ, List.setIfInBounds_toArray, List.set_cons_zero, List.set_cons_succ]
              refine wpAnyH_take (i := 20) (v := .bool true) rfl (by kernel_rfl) (by kernel_rfl) (by kernel_rfl) (fun _ _ _ h => h) (Or.inl ⟨by kernel_rfl, fun _ _ => by go_simp⟩) hHeld ?_
              simp only [Act.put, List.getElem_toArray, List.getElem_cons_zero, List.getElem_cons_succ, List.setIfInBounds_toArray, List.set_cons_zero, List.set_cons_succ]
              refine wpAnyH_take (i := 21) (v := .bool true) rfl (by kernel_rfl) (by kernel_rfl) (by kernel_rfl) (fun _ _ _ h => h) (Or.inl ⟨by kernel_rfl, fun _ _ => by go_simp⟩) hHeld ?_
              simp only [Act.put, List.getElem_toArray, List.getElem_cons_zero, List.getElem_cons_succ, List.setIfInBounds_toArray, List.set_cons_zero, List.set_cons_succ]
              refine wpAnyH_done (by kernel_rfl) ?_ _
              have HZ := hide (HBX.out _ hHeld)
              clear hHeld
              go_wp2
              go_ret
              exact ⟨rfl, HZ.out⟩
end Go.Proofs.Yteacldkfdhhphaa
