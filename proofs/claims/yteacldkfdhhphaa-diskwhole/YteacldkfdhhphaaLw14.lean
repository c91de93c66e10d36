/- DiskWhole's walk. -/
import Derived.Test.YteacldkfdhhphaaWk14
import Derived.Deep.RegionHeld2
set_option linter.unusedVariables false
set_option linter.unusedSimpArgs false
set_option maxRecDepth 40000
namespace Go.Proofs.Yteacldkfdhhphaa
open Go.RowKit

theorem kept_start (n : Nat) (k : List Bool) : keptB n k 0 = decide ((n : Int) ≤ k.length) := by
  show decide (n ≤ k.length) = _
  exact decide_eq_decide.2 (by omega)
set_option maxHeartbeats 8000000 in
theorem diskWhole_walk (v0 : Value) (l0 : List AV) (v1 : Value) (keep : List Bool) (w : World) (hS0 : IsS w v0 l0) (hO0 : ∀ a ∈ l0, OkA a) (hL0 : l0.length ≤ 9223372036854775807) (hF : IsF w v1 keep) (hFl : keep.length ≤ 9223372036854775807) :
    Calls Try.prog 6 #[v0, v1] w fun e w' => e = .returned (.bool true) ∧ Below w.heap.size w w' := by
  obtain ⟨a0, c0, rfl⟩ := hS0.form
  obtain ⟨a1, c1, e1⟩ := hF.form
  obtain ⟨kl, hkl⟩ : ∃ kl, keep.length = kl := ⟨_, rfl⟩
  rw [hkl] at e1
  subst e1
  have HKL := hide hkl
  have hkl9 : kl ≤ 9223372036854775807 := by rw [← hkl]; exact hFl
  have HN : Hid (Calls Try.prog 10 #[.int .i64 3] w fun e y => ∃ a, e = .returned (.tuple #[.pointer (some a), .int .i64 0]) ∧ Hid (Liv w (.pointer (some a)) (newD 3) y)) := hide (live_new 3 w w (Below.refl _ _) (by omega))
  have HD0 : Hid (∀ v x, Liv w v (newD 3) x → Calls Try.prog 18 #[v] x fun e y => ∃ (p : Option Addr) (c : Nat), e = .returned (.slice p 768 c) ∧ Hid (WS w v (dmW []) [] (.slice p 768 c) (.slice none 0 0) [] y)) := hide (fun v x hl => (live_dump (Fit.new (by decide)) hl).mono fun e y hh => by
    obtain ⟨p, c, e1, e2, e3⟩ := hh
    rw [show (dumpD (newD 3)).length = 768 from dumpW_len okW_nil] at e1 e2
    exact ⟨p, c, e1, hide (WS.start hl e3.out e2.out)⟩)
  have HAC : Hid (∀ i (hi : i < l0.length), ∃ g o, a0 = some ⟨g, o, none⟩ ∧ (∀ x, Below w.heap.size w x → x.cell? ⟨g, o + i * 5, none⟩ = some (.int .i64 l0[i].kind) ∧ x.cell? ⟨g, o + i * 5 + 1, none⟩ = some (.int .i64 l0[i].n) ∧ x.cell? ⟨g, o + i * 5 + 2, none⟩ = some l0[i].bv ∧ x.cell? ⟨g, o + i * 5 + 3, none⟩ = some (.bool l0[i].short) ∧ x.cell? ⟨g, o + i * 5 + 4, none⟩ = some l0[i].kv) ∧ IsY w l0[i].bv l0[i].b ∧ IsF w l0[i].kv l0[i].keep) := hide (fun i hi => by
    obtain ⟨g, o, e, _, h1, h2, h3⟩ := hS0.at_ i hi
    exact ⟨g, o, e, h1, h2, h3⟩)
  have HSM : Hid (∀ x (a : AV), Below w.heap.size w x → IsY w a.bv a.b → IsF w a.kv a.keep → Calls Try.prog 12 #[acA a] x fun e y => e = .returned (.bool (smallA a)) ∧ Hid (Below x.heap.size x y)) := hide (fun x a hb hy hf => live_small hb hy hf)
  have HPK : Hid (∀ (n : Int) x, ∃ q : Nat, q < 3 ∧ Calls Try.prog 9 #[.int .i64 n, .int .i64 3] x fun e w' => e = .returned (.int .i64 (q : Int)) ∧ w' = x) := hide (fun n x => by
    obtain ⟨h1, h2⟩ := pick_bound n 3 (by omega)
    refine ⟨(pickN n 3).toNat, by unfold pickN; omega, (pick_any n 3 (by omega) (by omega) x).mono fun e w' h => ?_⟩
    rw [show ((pickN n 3).toNat : Int) = pickN n 3 by unfold pickN; omega]
    exact h)
  have HBK : Hid (∀ x (a : AV), Below w.heap.size w x → IsY w a.bv a.b → smallA a = true → Calls Try.prog 24 #[a.bv] x fun e x1 => ∃ (p : Option Addr) (c : Nat), e = .returned (.slice p 256 c) ∧ Hid (NewY x.heap.size x1 (.slice p 256 c) (blockB a.b)) ∧ Hid (Below x.heap.size x x1)) := hide (fun x a hb hy hs => (rblock_any _ a.b _ (hy.below hb) (by unfold smallA at hs; simp only [Bool.and_eq_true, decide_eq_true_eq] at hs; omega)).mono fun e x1 hh => by
    obtain ⟨v, rfl, ho, hb⟩ := hh
    obtain ⟨p, c, rfl⟩ := owns_formG ho
    exact ⟨p, c, rfl, hide (owns_newY (l := blockB a.b) (by rw [block_len]; exact ho)), hide hb⟩)
  have HCR : Hid (∀ v x ws wv av us, OkW ws → ws.length ≤ 20 → WS w v (dmW ws) ws wv av us x → Calls Try.prog 22 #[v, .slice a1 kl c1] x fun e y => e = .returned (.tuple #[]) ∧ Hid (WS w v (crashD (dmW ws) keep) ws wv av us y)) := hide (fun v x ws wv av us hok hl h => ws_crash h hok (by omega) hF hFl)
  have HDE : Hid (∀ v x ws wv av us, OkW ws → ws.length ≤ 20 → WS w v (crashD (dmW ws) keep) ws wv av us x → Calls Try.prog 18 #[v] x fun e y => ∃ (p : Option Addr) (c : Nat), e = .returned (.slice p 768 c) ∧ Hid (NewY w.heap.size y (.slice p 768 c) (crashW ws keep)) ∧ Hid (WF w ws wv av us y)) := hide (fun v x ws wv av us hok hl h => (live_dump ((fit_w hok (by omega)).crash keep) h.liv).mono fun e y hh => by
    obtain ⟨p, c, e1, e2, e3⟩ := hh
    rw [crashW_is, crashW_len hok] at e1 e2
    exact ⟨p, c, e1, hide (e2.out.base h.f.b.size), hide (h.f.below e3.out)⟩)
  have HKC : Hid (∀ i, i < kl → ∃ g o, a1 = some ⟨g, o, none⟩ ∧ ∀ x, Below w.heap.size w x → x.cell? ⟨g, o + i, none⟩ = some (.bool (keep.getD i false))) := hide (fun i hi => by
    rw [← hkl] at hi
    rw [getD_lt keep i hi]
    rcases hF with ⟨h, _⟩ | ⟨g, o, cap, e, hc⟩
    · rw [h] at hi; simp at hi
    · injection e with e1
      exact ⟨g, o, e1, fun x hb => (hb.cell (cell_lt (hc i hi))).trans (hc i hi)⟩)
  have HAL := hide alive_any
  clear hS0 hO0 hF hkl
  go_enter Try.func6, Try.ntmps6
  go_wp2_with fail
  refine HN.out.mono ?_
  rintro e x0 ⟨ap, rfl, L0⟩
  have H1 := hide (HD0.out _ x0 L0.out)
  clear HN HD0 L0
  go_wp2_with fail
  refine H1.out.mono ?_
  rintro e x1 ⟨pw, cw, rfl, W0⟩
  clear H1
  go_wp2
  go_loopw [8, 9] (fun va vi wr => ∃ (i : Nat) (ws : List (Nat × Bs)) (a : Option Addr) (k c : Nat) (us : List Value), va = .slice a k c ∧ vi = .int .i64 (i : Int) ∧ i ≤ 20 ∧ i ≤ l0.length ∧ Hid (us.length = k ∧ ws.length = k ∧ k ≤ i ∧ OkW ws) ∧ Hid (WS w (.pointer (some ap)) (dmW ws) ws (.slice pw 768 cw) (.slice a k c) us wr)) (fun _ vi _ => 20 - (intOf vi).toNat)
  case atStart => exact ⟨0, [], none, 0, 0, [], rfl, rfl, Nat.zero_le _, Nat.zero_le _, hide ⟨rfl, rfl, Nat.le_refl _, okW_nil⟩, W0⟩
  case round =>
    clear W0
    obtain ⟨i, ws, a, k, c, us, rfl, rfl, hi, hi2, HQ, W⟩ := hrel
    by_cases hlt : i < l0.length ∧ i < 20
    · obtain ⟨hl1, hl3⟩ := hlt
      have hl1' : (i : Int) < l0.length := by omega
      have hl3' : (i : Int) < 20 := by omega
      obtain ⟨g, o, rfl, hc, hy, hf⟩ := HAC.out i hl1
      obtain ⟨z0, z1, z2, z3, z4⟩ := hc wr W.out.f.b
      have HC := hide hc
      have HS1 := hide (HSM.out wr l0[i] W.out.f.b hy hf)
      have HB1 := hide (fun (hs : smallA (l0[i]'hl1) = true) x (hb : Below w.heap.size w x) => HBK.out x l0[i] hb hy hs)
      have HWB := hide (fun x (hb : Below wr.heap.size wr x) => W.out.below hb)
      have HQN : Hid (us.length = k ∧ ws.length = k ∧ k ≤ i + 1 ∧ OkW ws) := hide ⟨HQ.out.1, HQ.out.2.1, by have := HQ.out.2.2.1; omega, HQ.out.2.2.2⟩
      have hk20 : k ≤ 20 := by have := HQ.out.2.2.1; omega
      have HPKn := hide (fun x => HPK.out (l0[i]'hl1).n x)
      have HWR : Hid (∀ x (q : Nat) x1 u, q < 3 → WS w (.pointer (some ap)) (dmW ws) ws (.slice pw 768 cw) (.slice a k c) us x → Below x.heap.size x x1 → NewY x.heap.size x1 u (blockB (l0[i]'hl1).b) → Calls Try.prog 23 #[.pointer (some ap), .int .i64 (q : Int), u] x1 fun e y => e = .returned (.int .i64 0) ∧ Hid (WS w (.pointer (some ap)) (dmW (ws ++ [(q, blockB (l0[i]'hl1).b)])) (ws ++ [(q, blockB (l0[i]'hl1).b)]) (.slice pw 768 cw) (.slice a k c) us y)) := hide (fun x q x1 u hq h hb hy => ws_write h HQ.out.2.2.2 (by have := HQ.out.2.1; omega) (HQ.out.1.trans HQ.out.2.1.symm) q hq hb hy (block_len _))
      have HDU : Hid (∀ x (q : Nat), q < 3 → WS w (.pointer (some ap)) (dmW (ws ++ [(q, blockB (l0[i]'hl1).b)])) (ws ++ [(q, blockB (l0[i]'hl1).b)]) (.slice pw 768 cw) (.slice a k c) us x → Calls Try.prog 18 #[.pointer (some ap)] x fun e y => ∃ (p : Option Addr) (c2 : Nat), e = .returned (.slice p 768 c2) ∧ ∃ a' c' x', (Builtin.append_ #[54, 54] 54 #[.slice a k c, .slice (some ⟨y.heap.size, 0, none⟩) 1 1]).run Try.prog (y.alloc (.cells #[.slice p 768 c2] 34)) = .ok (.slice a' (k + 1) c') x' ∧ Hid (∃ ws' us', us'.length = k + 1 ∧ ws'.length = k + 1 ∧ k + 1 ≤ i + 1 ∧ OkW ws' ∧ WS w (.pointer (some ap)) (dmW ws') ws' (.slice pw 768 cw) (.slice a' (k + 1) c') us' x')) := hide (fun x q hq h => by
        obtain ⟨q1, q2, q3, q4⟩ := HQ.out
        have hok := q4.add hq (block_len (l0[i]'hl1).b)
        have hwl : (ws ++ [(q, blockB (l0[i]'hl1).b)]).length = k + 1 := by rw [List.length_append, q2]; rfl
        refine (live_dump (fit_w hok (by omega)) h.liv).mono fun e y hh => ?_
        obtain ⟨p, c2, e1, e2, e3⟩ := hh
        rw [dumpW_is, dumpW_len hok] at e1 e2
        obtain ⟨a', c', x', r1, r2⟩ := ws_push h e3.out p 768 c2 (by rw [q1, List.take_of_length_le (by omega)]; exact e2.out) (by omega)
        rw [q1] at r1 r2
        exact ⟨p, c2, e1, a', c', x', r1, hide ⟨_, _, by rw [List.length_append, q1]; rfl, hwl, by omega, hok, r2⟩⟩)
      obtain ⟨ba, bc, eb⟩ := hy.form
      obtain ⟨ka, kc, ek⟩ := hf.form
      clear hc hy hf HAC HSM HBK HCR HDE HKC HAL HPK
      generalize l0[i] = ac at *
      obtain ⟨kind, n, ab, short, kp, bv, kv⟩ := ac
      simp only [] at eb ek z0 z1 z2 z3 z4 HC HB1 HPKn HWR HDU
      subst eb ek
      generalize hblk : blockB ab = bk at *
      clear hblk
      generalize ab.length = abl at *
      generalize kp.length = kpl at *
      generalize hsm : smallA ⟨kind, n, ab, short, kp, .slice ba abl bc, .slice ka kpl kc⟩ = sm at *
      cases sm
      · clear HB1 HPKn HWR HDU HQ
        go_wp2_with fail
        refine HS1.out.mono ?_
        rintro e y1 ⟨rfl, b1⟩
        have L1 := hide (HWB.out y1 b1.out)
        clear HS1 HWB b1 HC z0 z1 z2 z3 z4 hsm W
        go_wp2
        go_roundw
        case rel => exact ⟨i + 1, ws, a, k, c, us, rfl, by go_num, by omega, by omega, HQN, L1⟩
        case measure => simp [intOf]; omega
      · have HB2 := hide (HB1.out rfl)
        clear HB1 HQN HQ
        go_wp2_with fail
        refine HS1.out.mono ?_
        rintro e y1 ⟨rfl, b1⟩
        have L1 := hide (HWB.out y1 b1.out)
        obtain ⟨q, hq3, hq⟩ := HPKn.out y1
        have HPQ := hide hq
        have H2 := hide (HB2.out y1 L1.out.f.b)
        obtain ⟨z0, z1, z2, z3, z4⟩ := HC.out y1 L1.out.f.b
        clear HS1 HWB b1 HPKn HC hq HB2 W hsm z0 z3 z4
        go_wp2_with fail
        refine HPQ.out.mono ?_
        rintro e y2 ⟨rfl, rfl⟩
        clear HPQ
        go_wp2_with fail
        refine H2.out.mono ?_
        rintro e y3 ⟨p3, c3, rfl, n3, b3⟩
        have H3 := hide (HWR.out _ q y3 _ hq3 L1.out b3.out n3.out)
        clear H2 HWR L1 n3 b3 z1 z2
        go_wp2_with fail
        refine H3.out.mono ?_
        rintro e y4 ⟨rfl, L2⟩
        have H4 := hide (HDU.out y4 q hq3 L2.out)
        clear H3 HDU L2
        go_wp2_with fail
        refine H4.out.mono ?_
        rintro e y5 ⟨p5, c5, rfl, a', c', x', hrun, HW⟩
        clear H4
        go_wp2_with (at_builtin; refine Lib.wpList_append_run _ rfl (.tmp 65) (.tmp 67) _ _ rfl _ _ rfl rfl _ _ hrun ?_)
        clear hrun
        obtain ⟨ws', us', g1, g2, g3, g4, g5⟩ := HW.out
        have HQ2 : Hid (us'.length = k + 1 ∧ ws'.length = k + 1 ∧ k + 1 ≤ i + 1 ∧ OkW ws') := hide ⟨g1, g2, g3, g4⟩
        have L3 := hide g5
        clear HW g1 g2 g3 g4 g5
        go_roundw
        case rel => exact ⟨i + 1, ws', a', k + 1, c', us', rfl, by go_num, by omega, by omega, HQ2, L3⟩
        case measure => simp [intOf]; omega
    · have hk20 : k ≤ 20 := by have := HQ.out.2.2.1; omega
      have hwk : wrap64 ((k : Int) * 4) = (k : Int) * 4 := by unfold wrap64; omega
      have HPE : Hid (Calls Try.prog 17 #[.pointer (some ap)] wr fun e y => e = .returned (.int .i64 ((k : Int) * 4)) ∧ Hid (WS w (.pointer (some ap)) (dmW ws) ws (.slice pw 768 cw) (.slice a k c) us y)) := hide ((live_pending (fit_w HQ.out.2.2.2 (by have := HQ.out.2.1; omega)) W.out.liv).mono fun e y hh => ⟨by rw [hh.1]; show Ending.returned (.int .i64 ((flatP ws).length : Int)) = _; rw [flatP_len, HQ.out.2.1]; congr 2; omega, hide (W.out.below hh.2.out)⟩)
      have hws := HQ.out.2.1
      have HC1 := hide (fun x (h : WS w (.pointer (some ap)) (dmW ws) ws (.slice pw 768 cw) (.slice a k c) us x) => HCR.out _ x ws _ _ us HQ.out.2.2.2 (by omega) h)
      have HD1 := hide (fun x (h : WS w (.pointer (some ap)) (crashD (dmW ws) keep) ws (.slice pw 768 cw) (.slice a k c) us x) => HDE.out _ x ws _ _ us HQ.out.2.2.2 (by omega) h)
      clear HCR HDE HAC HSM HPK HBK W hws
      rcases (by omega : ¬ ((i : Int) < l0.length) ∨ ((i : Int) < l0.length ∧ ¬ (i : Int) < 20)) with hq | ⟨hq, hq3⟩
      all_goals
        go_wp2_with fail
        refine HPE.out.mono ?_
        rintro e x2 ⟨rfl, W2⟩
        have H2 := hide (HC1.out x2 W2.out)
        clear HPE HC1 W2
        go_wp2_with fail
        refine H2.out.mono ?_
        rintro e x3 ⟨rfl, W3⟩
        have H3 := hide (HD1.out x3 W3.out)
        clear H2 HD1 W3
        go_wp2_with fail
        refine H3.out.mono ?_
        rintro e x8 ⟨pn, cn, rfl, NW, WW⟩
        clear H3
        have HK0 : Hid (keptB (4 * k) keep 0 = decide ((k : Int) * 4 ≤ kl)) := hide (by rw [kept_start, HKL.out]; exact decide_eq_decide.2 (by omega))
        go_wp2
        generalize wr = wq at *
        go_loopw [13, 14] (fun vb vi wr => ∃ (i : Nat) (b : Bool), vb = .bool b ∧ vi = .int .i64 (i : Int) ∧ i ≤ kl ∧ Hid (keptB (4 * k) keep i = b) ∧ Hid (Below x8.heap.size x8 wr)) (fun _ vi _ => kl - (intOf vi).toNat)
        case atStart => exact ⟨0, _, rfl, rfl, Nat.zero_le _, HK0, hide (Below.refl _ _)⟩
        case round =>
          clear HK0
          obtain ⟨i, b, rfl, rfl, hik, HB, B8⟩ := hrel
          by_cases hlt2 : i < kl
          · have hlt3 : (i : Int) < kl := by omega
            obtain ⟨g, o, rfl, hcc⟩ := HKC.out i hlt2
            have hcell := hcc wr (WW.out.below B8.out).b
            have hst : keptB (4 * k) keep (i + 1) = (b && (keep.getD i false || decide (4 * k ≤ i))) := by
              show (keptB (4 * k) keep i && _) = _
              rw [HB.out]
            have HST := hide hst
            clear hcc HKC hst HB HAL WW NW
            generalize keep.getD i false = kb at *
            cases b
            · clear hcell
              have HS2 : Hid (keptB (4 * k) keep (i + 1) = false) := hide (by rw [HST.out]; rfl)
              clear HST
              go_wp2
              go_roundw
              case rel => exact ⟨i + 1, false, rfl, by go_num, by omega, HS2, B8⟩
              case measure => simp [intOf]; omega
            · cases kb
              · by_cases h4 : 4 * k ≤ i
                · have h4i : (k : Int) * 4 ≤ i := by omega
                  have HS2 : Hid (keptB (4 * k) keep (i + 1) = true) := hide (by rw [HST.out, decide_eq_true h4]; rfl)
                  clear HST
                  go_wp2
                  go_roundw
                  case rel => exact ⟨i + 1, true, rfl, by go_num, by omega, HS2, B8⟩
                  case measure => simp [intOf]; omega
                · have h4i : ¬ (k : Int) * 4 ≤ i := by omega
                  have HS2 : Hid (keptB (4 * k) keep (i + 1) = false) := hide (by rw [HST.out, decide_eq_false h4]; rfl)
                  clear HST
                  go_wp2
                  go_roundw
                  case rel => exact ⟨i + 1, false, rfl, by go_num, by omega, HS2, B8⟩
                  case measure => simp [intOf]; omega
              · have HS2 : Hid (keptB (4 * k) keep (i + 1) = true) := hide (by rw [HST.out]; rfl)
                clear HST
                go_wp2
                go_roundw
                case rel => exact ⟨i + 1, true, rfl, by go_num, by omega, HS2, B8⟩
                case measure => simp [intOf]; omega
          · have hlt3 : ¬ (i : Int) < kl := by omega
            obtain rfl : i = kl := by omega
            generalize wr = x9 at *
            have hq1 := HQ.out.1
            have hq2 := HQ.out.2.1
            have hok := HQ.out.2.2.2
            have n9 := NW.out.below B8.out
            have f9 := WW.out.below B8.out
            have l9 := crashW_len hok keep
            obtain ⟨gn, on, epn, _, hcn, _⟩ := sec_bytes n9 l9 0 (by omega)
            obtain ⟨gw, ow, epw, _, hcw, _⟩ := sec_bytes f9.y (dumpW_len okW_nil) 0 (by omega)
            subst epn epw
            have HSN : Hid (∀ s, s < 12 → ∀ W, Below x9.heap.size x9 W → (convert 34 9 (.slice (some ⟨gn, on + s * 64, none⟩) 64 (cn - s * 64))).run Try.prog W = .ok (.string ⟨(secB (crashW ws keep) s).toArray⟩) W) := hide (fun s hs W hb => by
              obtain ⟨g, o, e, _, _, h⟩ := sec_bytes (n9.below hb) l9 s hs
              injection e with e
              injection e with e1 e2
              subst e1 e2
              exact h)
            have HSW : Hid (∀ s, s < 12 → ∀ W, Below x9.heap.size x9 W → (convert 34 9 (.slice (some ⟨gw, ow + s * 64, none⟩) 64 (cw - s * 64))).run Try.prog W = .ok (.string ⟨(secB (dumpW []) s).toArray⟩) W) := hide (fun s hs W hb => by
              obtain ⟨g, o, e, _, _, h⟩ := sec_bytes (f9.below hb).y (dumpW_len okW_nil) s hs
              injection e with e
              injection e with e1 e2
              subst e1 e2
              exact h)
            have HSU : Hid (∀ j, j < k → ∃ ga gu ou cu, a = some ⟨ga, 0, none⟩ ∧ 768 ≤ cu ∧ ∀ W, Below x9.heap.size x9 W → W.cell? ⟨ga, j, none⟩ = some (.slice (some ⟨gu, ou, none⟩) 768 cu) ∧ (convert 34 9 (.slice (some ⟨gu, ou, none⟩) 768 cu)).run Try.prog W = .ok (.string ⟨(dumpW (ws.take (j + 1))).toArray⟩) W ∧ ∀ s, s < 12 → (convert 34 9 (.slice (some ⟨gu, ou + s * 64, none⟩) 64 (cu - s * 64))).run Try.prog W = .ok (.string ⟨(secB (dumpW (ws.take (j + 1))) s).toArray⟩) W) := hide (fun j hj => by
              have hju : j < us.length := by omega
              have hlen := dumpW_len (okW_take hok (j + 1))
              have hd := f9.d j hju
              obtain ⟨pu, cu, eu⟩ := hd.form
              rw [hlen] at eu
              rw [eu] at hd
              obtain ⟨gu, ou, e, _, hcu, _⟩ := sec_bytes hd hlen 0 (by omega)
              subst e
              have ho := f9.o
              rw [hq1] at ho
              obtain ⟨ga, cap, e1, _⟩ := own_form ho (fun e => by injection e with e1 e2 e3; omega)
              injection e1 with e1 e2 e3
              subst e1 e3
              refine ⟨ga, gu, ou, cu, rfl, hcu, fun W hb => ?_⟩
              have fW := f9.below hb
              have oW := fW.o
              rw [hq1] at oW
              have dW := fW.d j hju
              rw [eu] at dW
              refine ⟨?_, conv_newY dW, fun s hs => ?_⟩
              · rw [oW.cellAt j (by omega), List.getElem?_eq_getElem hju, eu]
              · obtain ⟨g, o, e, _, _, h⟩ := sec_bytes dW hlen s hs
                injection e with e
                injection e with e1 e2
                subst e1 e2
                exact h)
            have HCN : Hid (∀ W, Below x9.heap.size x9 W → (convert 34 9 (.slice (some ⟨gn, on, none⟩) 768 cn)).run Try.prog W = .ok (.string ⟨(crashW ws keep).toArray⟩) W) := hide (fun W hb => conv_newY (n9.below hb))
            have HOK : Hid (∀ s, s < 12 → okB (crashW ws keep) (dumpW []) (fun j => dumpW (ws.take (j + 1))) s k = true) := hide (fun s hs => ok_of (by have := whole_sec hok keep s hs; rw [hq2] at this; exact this))
            have HLA : Hid (b = true → crashW ws keep = dumpW ws) := hide (fun e => by
              have hb := HB.out
              rw [e, ← HKL.out] at hb
              obtain ⟨h1, h2⟩ := kept_end hb
              exact whole_all keep (by rw [hq2]; exact h1) (by rw [hq2]; exact h2))
            have HB9 := hide (fun W (hb : Below x9.heap.size x9 W) => (f9.below hb).b)
            have HTK : Hid (ws.take k = ws) := hide (List.take_of_length_le (by omega))
            clear n9 f9 l9 hq1 hq2 hok NW WW HQ HB B8 HKC
            have HREG : Hid (b = false ∨ (b = true ∧ k = 0) ∨ (b = true ∧ ∃ km, k = km + 1)) := hide (by
              cases b
              · exact .inl rfl
              · cases k with
                | zero => exact .inr (.inl ⟨rfl, rfl⟩)
                | succ m => exact .inr (.inr ⟨rfl, m, rfl⟩))
            rcases HREG.out with rfl | ⟨rfl, rfl⟩ | ⟨rfl, km, rfl⟩
            · clear HREG HLA
              go_wp2_with fail
              refine wp_region_held_drew (S := fun W' => Below x9.heap.size x9 W') (by kernel_rfl) (Below.refl _ x9).drew (fun hHeld => ?_)
              refine wpAnyH_take (i := 0) (v := ?_) rfl (by kernel_rfl) (by kernel_rfl) (by kernel_rfl) (fun _ _ _ h => h) (Or.inl ⟨by kernel_rfl, ?_⟩) hHeld ?_
              rotate_left
              · intro W hSw
                clear hSw
                go_simp <;> with_reducible rfl
              simp only [Act.put, List.getElem_toArray, List.getElem_cons_zero, List.getElem_cons_succ, List.setIfInBounds_toArray, List.set_cons_zero, List.set_cons_succ]
              refine wpAnyH_take (i := 1) (v := .int .i64 768) rfl (by kernel_rfl) (by kernel_rfl) (by kernel_rfl) (fun _ _ _ h => h) (Or.inl ⟨by kernel_rfl, fun _ _ => by go_simp⟩) hHeld ?_
              simp only [Act.put, List.getElem_toArray, List.getElem_cons_zero, List.getElem_cons_succ, List.setIfInBounds_toArray, List.set_cons_zero, List.set_cons_succ]
              refine wpAnyH_take (i := 2) (v := .bool false) rfl (by kernel_rfl) (by kernel_rfl) (by kernel_rfl) (fun _ _ _ h => h) (Or.inl ⟨by kernel_rfl, fun _ _ => by go_simp⟩) hHeld ?_
              simp only [Act.put, List.getElem_toArray, List.getElem_cons_zero, List.getElem_cons_succ, List.setIfInBounds_toArray, List.set_cons_zero, List.set_cons_succ]
              refine wpAnyH_take (i := 3) (v := .bool false) rfl (by kernel_rfl) (by kernel_rfl) (by kernel_rfl) (fun _ _ _ h => h) (Or.inl ⟨by kernel_rfl, fun _ _ => by go_simp⟩) hHeld ?_
              simp only [Act.put, List.getElem_toArray, List.getElem_cons_zero, List.getElem_cons_succ, List.setIfInBounds_toArray, List.set_cons_zero, List.set_cons_succ]
              refine wpAnyH_take (i := 4) (v := ?_) rfl (by kernel_rfl) (by kernel_rfl) (by kernel_rfl) (fun _ _ _ h => h) (Or.inl ⟨by kernel_rfl, ?_⟩) hHeld ?_
              rotate_left
              · intro W hSw
                clear hSw
                go_simp <;> with_reducible rfl
              simp only [Act.put, List.getElem_toArray, List.getElem_cons_zero, List.getElem_cons_succ, List.setIfInBounds_toArray, List.set_cons_zero, List.set_cons_succ]
              refine wpAnyH_take (i := 5) (v := ?_) rfl (by kernel_rfl) (by kernel_rfl) (by kernel_rfl) (fun _ _ _ h => h) (Or.inl ⟨by kernel_rfl, ?_⟩) hHeld ?_
              rotate_left
              · intro W hSw
                clear hSw
                go_simp <;> with_reducible rfl
              simp only [Act.put, List.getElem_toArray, List.getElem_cons_zero, List.getElem_cons_succ, List.setIfInBounds_toArray, List.set_cons_zero, List.set_cons_succ]
              refine wpAnyH_take (i := 6) (v := undef) rfl (by kernel_rfl) (by kernel_rfl) (by kernel_rfl) (fun _ _ _ h => h) (Or.inr ⟨by kernel_rfl, rfl⟩) hHeld ?_
              simp only [Act.put, List.getElem_toArray, List.getElem_cons_zero, List.getElem_cons_succ, List.setIfInBounds_toArray, List.set_cons_zero, List.set_cons_succ]
              refine wpAnyH_take (i := 7) (v := undef) rfl (by kernel_rfl) (by kernel_rfl) (by kernel_rfl) (fun _ _ _ h => h) (Or.inr ⟨by kernel_rfl, rfl⟩) hHeld ?_
              simp only [Act.put, List.getElem_toArray, List.getElem_cons_zero, List.getElem_cons_succ, List.setIfInBounds_toArray, List.set_cons_zero, List.set_cons_succ]
              refine wpAnyH_take (i := 8) (v := undef) rfl (by kernel_rfl) (by kernel_rfl) (by kernel_rfl) (fun _ _ _ h => h) (Or.inr ⟨by kernel_rfl, rfl⟩) hHeld ?_
              simp only [Act.put, List.getElem_toArray, List.getElem_cons_zero, List.getElem_cons_succ, List.setIfInBounds_toArray, List.set_cons_zero, List.set_cons_succ]
              refine wpAnyH_take (i := 9) (v := .bool false) rfl (by kernel_rfl) (by kernel_rfl) (by kernel_rfl) (fun _ _ _ h => h) (Or.inl ⟨by kernel_rfl, fun _ _ => by go_simp⟩) hHeld ?_
              simp only [Act.put, List.getElem_toArray, List.getElem_cons_zero, List.getElem_cons_succ, List.setIfInBounds_toArray, List.set_cons_zero, List.set_cons_succ]
              refine wpAnyH_take (i := 10) (v := .bool false) rfl (by kernel_rfl) (by kernel_rfl) (by kernel_rfl) (fun _ _ _ h => h) (Or.inl ⟨by kernel_rfl, fun _ _ => by go_simp⟩) hHeld ?_
              simp only [Act.put, List.getElem_toArray, List.getElem_cons_zero, List.getElem_cons_succ, List.setIfInBounds_toArray, List.set_cons_zero, List.set_cons_succ]
              refine wpAnyH_take (i := 11) (v := undef) rfl (by kernel_rfl) (by kernel_rfl) (by kernel_rfl) (fun _ _ _ h => h) (Or.inr ⟨by kernel_rfl, rfl⟩) hHeld ?_
              simp only [Act.put, List.getElem_toArray, List.getElem_cons_zero, List.getElem_cons_succ, List.setIfInBounds_toArray, List.set_cons_zero, List.set_cons_succ]
              refine wpAnyH_take (i := 12) (v := undef) rfl (by kernel_rfl) (by kernel_rfl) (by kernel_rfl) (fun _ _ _ h => h) (Or.inr ⟨by kernel_rfl, rfl⟩) hHeld ?_
              simp only [Act.put, List.getElem_toArray, List.getElem_cons_zero, List.getElem_cons_succ, List.setIfInBounds_toArray, List.set_cons_zero, List.set_cons_succ]
              refine wpAnyH_take (i := 13) (v := undef) rfl (by kernel_rfl) (by kernel_rfl) (by kernel_rfl) (fun _ _ _ h => h) (Or.inr ⟨by kernel_rfl, rfl⟩) hHeld ?_
              simp only [Act.put, List.getElem_toArray, List.getElem_cons_zero, List.getElem_cons_succ, List.setIfInBounds_toArray, List.set_cons_zero, List.set_cons_succ]
              refine wpAnyH_take (i := 14) (v := undef) rfl (by kernel_rfl) (by kernel_rfl) (by kernel_rfl) (fun _ _ _ h => h) (Or.inr ⟨by kernel_rfl, rfl⟩) hHeld ?_
              simp only [Act.put, List.getElem_toArray, List.getElem_cons_zero, List.getElem_cons_succ, List.setIfInBounds_toArray, List.set_cons_zero, List.set_cons_succ]
              refine wpAnyH_take (i := 15) (v := undef) rfl (by kernel_rfl) (by kernel_rfl) (by kernel_rfl) (fun _ _ _ h => h) (Or.inr ⟨by kernel_rfl, rfl⟩) hHeld ?_
              simp only [Act.put, List.getElem_toArray, List.getElem_cons_zero, List.getElem_cons_succ, List.setIfInBounds_toArray, List.set_cons_zero, List.set_cons_succ]
              refine wpAnyH_take (i := 16) (v := undef) rfl (by kernel_rfl) (by kernel_rfl) (by kernel_rfl) (fun _ _ _ h => h) (Or.inr ⟨by kernel_rfl, rfl⟩) hHeld ?_
              simp only [Act.put, List.getElem_toArray, List.getElem_cons_zero, List.getElem_cons_succ, List.setIfInBounds_toArray, List.set_cons_zero, List.set_cons_succ]
              refine wpAnyH_take (i := 17) (v := undef) rfl (by kernel_rfl) (by kernel_rfl) (by kernel_rfl) (fun _ _ _ h => h) (Or.inr ⟨by kernel_rfl, rfl⟩) hHeld ?_
              simp only [Act.put, List.getElem_toArray, List.getElem_cons_zero, List.getElem_cons_succ, List.setIfInBounds_toArray, List.set_cons_zero, List.set_cons_succ]
              refine wpAnyH_take (i := 18) (v := undef) rfl (by kernel_rfl) (by kernel_rfl) (by kernel_rfl) (fun _ _ _ h => h) (Or.inr ⟨by kernel_rfl, rfl⟩) hHeld ?_
              simp only [Act.put, List.getElem_toArray, List.getElem_cons_zero, List.getElem_cons_succ, List.setIfInBounds_toArray, List.set_cons_zero, List.set_cons_succ]
              refine wpAnyH_take (i := 19) (v := undef) rfl (by kernel_rfl) (by kernel_rfl) (by kernel_rfl) (fun _ _ _ h => h) (Or.inr ⟨by kernel_rfl, rfl⟩) hHeld ?_
              simp only [Act.put, List.getElem_toArray, List.getElem_cons_zero, List.getElem_cons_succ, List.setIfInBounds_toArray, List.set_cons_zero, List.set_cons_succ]
              refine wpAnyH_take (i := 20) (v := undef) rfl (by kernel_rfl) (by kernel_rfl) (by kernel_rfl) (fun _ _ _ h => h) (Or.inr ⟨by kernel_rfl, rfl⟩) hHeld ?_
              simp only [Act.put, List.getElem_toArray, List.getElem_cons_zero, List.getElem_cons_succ, List.setIfInBounds_toArray, List.set_cons_zero, List.set_cons_succ]
              refine wpAnyH_take (i := 21) (v := .bool false) rfl (by kernel_rfl) (by kernel_rfl) (by kernel_rfl) (fun _ _ _ h => h) (Or.inl ⟨by kernel_rfl, fun _ _ => by go_simp⟩) hHeld ?_
              simp only [Act.put, List.getElem_toArray, List.getElem_cons_zero, List.getElem_cons_succ, List.setIfInBounds_toArray, List.set_cons_zero, List.set_cons_succ]
              refine wpAnyH_take (i := 22) (v := .bool false) rfl (by kernel_rfl) (by kernel_rfl) (by kernel_rfl) (fun _ _ _ h => h) (Or.inl ⟨by kernel_rfl, fun _ _ => by go_simp⟩) hHeld ?_
              simp only [Act.put, List.getElem_toArray, List.getElem_cons_zero, List.getElem_cons_succ, List.setIfInBounds_toArray, List.set_cons_zero, List.set_cons_succ]
              refine wpAnyH_done (by kernel_rfl) ?_ _
              have HZ := hide hHeld
              clear hHeld
              go_wp2
              try clear hwk
              try clear hlt
              try clear hq3
              try clear hq
              try clear hi2
              try clear hlt2
              try clear hlt3
              try clear hik
              try clear hFl
              try clear hL0
              try clear hkl9
              go_loopw [15] (fun vi wr => ∃ s : Nat, vi = .int .i64 (s : Int) ∧ s ≤ 12 ∧ Hid (Below x9.heap.size x9 wr)) (fun vi _ => 12 - (intOf vi).toNat)
              case atStart => exact ⟨0, rfl, Nat.zero_le _, HZ⟩
              case round =>
                clear HZ
                obtain ⟨s, rfl, hs, B⟩ := hrel
                by_cases hs12 : s < 12
                · have hs1 : (s : Int) < 12 := by omega
                  have hm1 : wrap64 ((s : Int) * 64) = (s : Int) * 64 := by unfold wrap64; omega
                  have hm2 : wrap64 ((s : Int) + 1) = (s : Int) + 1 := by unfold wrap64; omega
                  have hm3 : wrap64 (((s : Int) + 1) * 64) = ((s : Int) + 1) * 64 := by unfold wrap64; omega
                  have HLN := hide (sec_slice gn on cn s hs12 hcn)
                  have HLW := hide (sec_slice gw ow cw s hs12 hcw)
                  have HVN := hide (HSN.out s hs12)
                  have HVW := hide (HSW.out s hs12)
                  have HK1 := hide (HOK.out s hs12)
                  have HU1 := hide (fun j (hj : j < k) => HSU.out j hj)
                  clear HSN HSW HOK HSU HAL HCN
                  go_wp2_with fail
                  refine wp_region_held_drew (S := fun W' => Below x9.heap.size x9 W') (by kernel_rfl) B.out.drew (fun hHeld => ?_)
                  refine wpAnyH_take (i := 0) (v := ?_) rfl (by kernel_rfl) (by kernel_rfl) (by kernel_rfl) (fun _ _ _ h => h) (Or.inl ⟨by kernel_rfl, ?_⟩) hHeld ?_
                  rotate_left
                  · intro W hSw
                    clear hSw
                    go_simp <;> with_reducible rfl
                  simp only [Act.put, List.getElem_toArray, List.getElem_cons_zero, List.getElem_cons_succ, List.setIfInBounds_toArray, List.set_cons_zero, List.set_cons_succ]
                  refine wpAnyH_take (i := 1) (v := ?_) rfl (by kernel_rfl) (by kernel_rfl) (by kernel_rfl) (fun _ _ _ h => h) (Or.inl ⟨by kernel_rfl, ?_⟩) hHeld ?_
                  rotate_left
                  · intro W hSw
                    clear hSw
                    go_simp <;> with_reducible rfl
                  simp only [Act.put, List.getElem_toArray, List.getElem_cons_zero, List.getElem_cons_succ, List.setIfInBounds_toArray, List.set_cons_zero, List.set_cons_succ]
                  refine wpAnyH_take (i := 2) (v := ?_) rfl (by kernel_rfl) (by kernel_rfl) (by kernel_rfl) (fun _ _ _ h => h) (Or.inl ⟨by kernel_rfl, ?_⟩) hHeld ?_
                  rotate_left
                  · intro W hSw
                    clear hSw
                    go_simp <;> with_reducible rfl
                  simp only [Act.put, List.getElem_toArray, List.getElem_cons_zero, List.getElem_cons_succ, List.setIfInBounds_toArray, List.set_cons_zero, List.set_cons_succ]
                  refine wpAnyH_take (i := 3) (v := ?_) rfl (by kernel_rfl) (by kernel_rfl) (by kernel_rfl) (fun _ _ _ h => h) (Or.inl ⟨by kernel_rfl, ?_⟩) hHeld ?_
                  rotate_left
                  · intro W hSw
                    have hsl := HLN.out
                    clear hSw
                    go_simp <;> with_reducible rfl
                  simp only [Act.put, List.getElem_toArray, List.getElem_cons_zero, List.getElem_cons_succ, List.setIfInBounds_toArray, List.set_cons_zero, List.set_cons_succ]
                  refine wpAnyH_take (i := 4) (v := ?_) rfl (by kernel_rfl) (by kernel_rfl) (by kernel_rfl) (fun _ _ _ h => h) (Or.inl ⟨by kernel_rfl, ?_⟩) hHeld ?_
                  rotate_left
                  · intro W hSw
                    have hcv := HVN.out _ hSw
                    clear hSw
                    go_simp <;> with_reducible rfl
                  simp only [Act.put, List.getElem_toArray, List.getElem_cons_zero, List.getElem_cons_succ, List.setIfInBounds_toArray, List.set_cons_zero, List.set_cons_succ]
                  refine wpAnyH_take (i := 5) (v := ?_) rfl (by kernel_rfl) (by kernel_rfl) (by kernel_rfl) (fun _ _ _ h => h) (Or.inl ⟨by kernel_rfl, ?_⟩) hHeld ?_
                  rotate_left
                  · intro W hSw
                    clear hSw
                    go_simp <;> with_reducible rfl
                  simp only [Act.put, List.getElem_toArray, List.getElem_cons_zero, List.getElem_cons_succ, List.setIfInBounds_toArray, List.set_cons_zero, List.set_cons_succ]
                  refine wpAnyH_take (i := 6) (v := ?_) rfl (by kernel_rfl) (by kernel_rfl) (by kernel_rfl) (fun _ _ _ h => h) (Or.inl ⟨by kernel_rfl, ?_⟩) hHeld ?_
                  rotate_left
                  · intro W hSw
                    clear hSw
                    go_simp <;> with_reducible rfl
                  simp only [Act.put, List.getElem_toArray, List.getElem_cons_zero, List.getElem_cons_succ, List.setIfInBounds_toArray, List.set_cons_zero, List.set_cons_succ]
                  refine wpAnyH_take (i := 7) (v := ?_) rfl (by kernel_rfl) (by kernel_rfl) (by kernel_rfl) (fun _ _ _ h => h) (Or.inl ⟨by kernel_rfl, ?_⟩) hHeld ?_
                  rotate_left
                  · intro W hSw
                    clear hSw
                    go_simp <;> with_reducible rfl
                  simp only [Act.put, List.getElem_toArray, List.getElem_cons_zero, List.getElem_cons_succ, List.setIfInBounds_toArray, List.set_cons_zero, List.set_cons_succ]
                  refine wpAnyH_take (i := 8) (v := ?_) rfl (by kernel_rfl) (by kernel_rfl) (by kernel_rfl) (fun _ _ _ h => h) (Or.inl ⟨by kernel_rfl, ?_⟩) hHeld ?_
                  rotate_left
                  · intro W hSw
                    have hsl := HLW.out
                    clear hSw
                    go_simp <;> with_reducible rfl
                  simp only [Act.put, List.getElem_toArray, List.getElem_cons_zero, List.getElem_cons_succ, List.setIfInBounds_toArray, List.set_cons_zero, List.set_cons_succ]
                  refine wpAnyH_take (i := 9) (v := ?_) rfl (by kernel_rfl) (by kernel_rfl) (by kernel_rfl) (fun _ _ _ h => h) (Or.inl ⟨by kernel_rfl, ?_⟩) hHeld ?_
                  rotate_left
                  · intro W hSw
                    have hcv := HVW.out _ hSw
                    clear hSw
                    go_simp <;> with_reducible rfl
                  simp only [Act.put, List.getElem_toArray, List.getElem_cons_zero, List.getElem_cons_succ, List.setIfInBounds_toArray, List.set_cons_zero, List.set_cons_succ]
                  refine wpAnyH_take (i := 10) (v := ?_) rfl (by kernel_rfl) (by kernel_rfl) (by kernel_rfl) (fun _ _ _ h => h) (Or.inl ⟨by kernel_rfl, ?_⟩) hHeld ?_
                  rotate_left
                  · intro W hSw
                    clear hSw
                    go_simp <;> with_reducible rfl
                  simp only [Act.put, List.getElem_toArray, List.getElem_cons_zero, List.getElem_cons_succ, List.setIfInBounds_toArray, List.set_cons_zero, List.set_cons_succ]
                  refine wpAnyH_take (i := 11) (v := ?_) rfl (by kernel_rfl) (by kernel_rfl) (by kernel_rfl) (fun _ _ _ h => h) (Or.inl ⟨by kernel_rfl, ?_⟩) hHeld ?_
                  rotate_left
                  · intro W hSw
                    clear hSw
                    go_simp <;> with_reducible rfl
                  simp only [Act.put, List.getElem_toArray, List.getElem_cons_zero, List.getElem_cons_succ, List.setIfInBounds_toArray, List.set_cons_zero, List.set_cons_succ]
                  refine wpAnyH_done (by kernel_rfl) ?_ _
                  have B2 := hide hHeld
                  clear hHeld HVW HLW
                  go_wp2
                  generalize wr = wz at *
                  go_loopw [18, 19] (fun vb vi wr => ∃ (j : Nat) (b2 : Bool), vb = .bool b2 ∧ vi = .int .i64 (j : Int) ∧ j ≤ k ∧ Hid (okB (crashW ws keep) (dumpW []) (fun j => dumpW (ws.take (j + 1))) s j = b2) ∧ Hid (Below x9.heap.size x9 wr)) (fun _ vi _ => k - (intOf vi).toNat)
                  case atStart => exact ⟨0, _, rfl, rfl, Nat.zero_le _, hide (by first | rfl | simp [okB]), B2⟩
                  case round =>
                    clear B2
                    obtain ⟨j, b2, rfl, rfl, hj, HO, B3⟩ := hrel
                    by_cases hjk : j < k
                    · have hjk2 : (j : Int) < k := by omega
                      obtain ⟨ga, gu, ou, cu, hea, hcu, hU⟩ := HU1.out j hjk
                      cases b2
                      · have HLU := hide (sec_slice gu ou cu s hs12 hcu)
                        have HUU := hide hU
                        try injection hea with hea
                        try injection hea with hea1 hea2
                        try subst hea1
                        try subst hea
                        clear hU HU1 HK1
                        go_wp2_with fail
                        refine wp_region_held_drew (S := fun W' => Below x9.heap.size x9 W') (by kernel_rfl) B3.out.drew (fun hHeld => ?_)
                        refine wpAnyH_take (i := 0) (v := ?_) rfl (by kernel_rfl) (by kernel_rfl) (by kernel_rfl) (fun _ _ _ h => h) (Or.inl ⟨by kernel_rfl, ?_⟩) hHeld ?_
                        rotate_left
                        · intro W hSw
                          clear hSw
                          go_simp <;> with_reducible rfl
                        simp only [Act.put, List.getElem_toArray, List.getElem_cons_zero, List.getElem_cons_succ, List.setIfInBounds_toArray, List.set_cons_zero, List.set_cons_succ]
                        refine wpAnyH_take (i := 1) (v := ?_) rfl (by kernel_rfl) (by kernel_rfl) (by kernel_rfl) (fun _ _ _ h => h) (Or.inl ⟨by kernel_rfl, ?_⟩) hHeld ?_
                        rotate_left
                        · intro W hSw
                          clear hSw
                          go_simp <;> with_reducible rfl
                        simp only [Act.put, List.getElem_toArray, List.getElem_cons_zero, List.getElem_cons_succ, List.setIfInBounds_toArray, List.set_cons_zero, List.set_cons_succ]
                        refine wpAnyH_take (i := 2) (v := ?_) rfl (by kernel_rfl) (by kernel_rfl) (by kernel_rfl) (fun _ _ _ h => h) (Or.inl ⟨by kernel_rfl, ?_⟩) hHeld ?_
                        rotate_left
                        · intro W hSw
                          clear hSw
                          go_simp <;> with_reducible rfl
                        simp only [Act.put, List.getElem_toArray, List.getElem_cons_zero, List.getElem_cons_succ, List.setIfInBounds_toArray, List.set_cons_zero, List.set_cons_succ]
                        refine wpAnyH_take (i := 3) (v := ?_) rfl (by kernel_rfl) (by kernel_rfl) (by kernel_rfl) (fun _ _ _ h => h) (Or.inl ⟨by kernel_rfl, ?_⟩) hHeld ?_
                        rotate_left
                        · intro W hSw
                          clear hSw
                          go_simp <;> with_reducible rfl
                        simp only [Act.put, List.getElem_toArray, List.getElem_cons_zero, List.getElem_cons_succ, List.setIfInBounds_toArray, List.set_cons_zero, List.set_cons_succ]
                        refine wpAnyH_take (i := 4) (v := ?_) rfl (by kernel_rfl) (by kernel_rfl) (by kernel_rfl) (fun _ _ _ h => h) (Or.inl ⟨by kernel_rfl, ?_⟩) hHeld ?_
                        rotate_left
                        · intro W hSw
                          clear hSw
                          go_simp <;> with_reducible rfl
                        simp only [Act.put, List.getElem_toArray, List.getElem_cons_zero, List.getElem_cons_succ, List.setIfInBounds_toArray, List.set_cons_zero, List.set_cons_succ]
                        refine wpAnyH_take (i := 5) (v := ?_) rfl (by kernel_rfl) (by kernel_rfl) (by kernel_rfl) (fun _ _ _ h => h) (Or.inl ⟨by kernel_rfl, ?_⟩) hHeld ?_
                        rotate_left
                        · intro W hSw
                          have hsl := HLN.out
                          clear hSw
                          go_simp <;> with_reducible rfl
                        simp only [Act.put, List.getElem_toArray, List.getElem_cons_zero, List.getElem_cons_succ, List.setIfInBounds_toArray, List.set_cons_zero, List.set_cons_succ]
                        refine wpAnyH_take (i := 6) (v := ?_) rfl (by kernel_rfl) (by kernel_rfl) (by kernel_rfl) (fun _ _ _ h => h) (Or.inl ⟨by kernel_rfl, ?_⟩) hHeld ?_
                        rotate_left
                        · intro W hSw
                          have hcv := HVN.out _ hSw
                          clear hSw
                          go_simp <;> with_reducible rfl
                        simp only [Act.put, List.getElem_toArray, List.getElem_cons_zero, List.getElem_cons_succ, List.setIfInBounds_toArray, List.set_cons_zero, List.set_cons_succ]
                        refine wpAnyH_take (i := 7) (v := ?_) rfl (by kernel_rfl) (by kernel_rfl) (by kernel_rfl) (fun _ _ _ h => h) (Or.inl ⟨by kernel_rfl, ?_⟩) hHeld ?_
                        rotate_left
                        · intro W hSw
                          clear hSw
                          go_simp <;> with_reducible rfl
                        simp only [Act.put, List.getElem_toArray, List.getElem_cons_zero, List.getElem_cons_succ, List.setIfInBounds_toArray, List.set_cons_zero, List.set_cons_succ]
                        refine wpAnyH_take (i := 8) (v := ?_) rfl (by kernel_rfl) (by kernel_rfl) (by kernel_rfl) (fun _ _ _ h => h) (Or.inl ⟨by kernel_rfl, ?_⟩) hHeld ?_
                        rotate_left
                        · intro W hSw
                          clear hSw
                          go_simp <;> with_reducible rfl
                        simp only [Act.put, List.getElem_toArray, List.getElem_cons_zero, List.getElem_cons_succ, List.setIfInBounds_toArray, List.set_cons_zero, List.set_cons_succ]
                        refine wpAnyH_take (i := 9) (v := ?_) rfl (by kernel_rfl) (by kernel_rfl) (by kernel_rfl) (fun _ _ _ h => h) (Or.inl ⟨by kernel_rfl, ?_⟩) hHeld ?_
                        rotate_left
                        · intro W hSw
                          clear hSw
                          go_simp <;> with_reducible rfl
                        simp only [Act.put, List.getElem_toArray, List.getElem_cons_zero, List.getElem_cons_succ, List.setIfInBounds_toArray, List.set_cons_zero, List.set_cons_succ]
                        refine wpAnyH_take (i := 10) (v := ?_) rfl (by kernel_rfl) (by kernel_rfl) (by kernel_rfl) (fun _ _ _ h => h) (Or.inl ⟨by kernel_rfl, ?_⟩) hHeld ?_
                        rotate_left
                        · intro W hSw
                          have hcl := (HUU.out _ hSw).1
                          clear hSw
                          go_simp <;> with_reducible rfl
                        simp only [Act.put, List.getElem_toArray, List.getElem_cons_zero, List.getElem_cons_succ, List.setIfInBounds_toArray, List.set_cons_zero, List.set_cons_succ]
                        refine wpAnyH_take (i := 11) (v := ?_) rfl (by kernel_rfl) (by kernel_rfl) (by kernel_rfl) (fun _ _ _ h => h) (Or.inl ⟨by kernel_rfl, ?_⟩) hHeld ?_
                        rotate_left
                        · intro W hSw
                          clear hSw
                          go_simp <;> with_reducible rfl
                        simp only [Act.put, List.getElem_toArray, List.getElem_cons_zero, List.getElem_cons_succ, List.setIfInBounds_toArray, List.set_cons_zero, List.set_cons_succ]
                        refine wpAnyH_take (i := 12) (v := ?_) rfl (by kernel_rfl) (by kernel_rfl) (by kernel_rfl) (fun _ _ _ h => h) (Or.inl ⟨by kernel_rfl, ?_⟩) hHeld ?_
                        rotate_left
                        · intro W hSw
                          clear hSw
                          go_simp <;> with_reducible rfl
                        simp only [Act.put, List.getElem_toArray, List.getElem_cons_zero, List.getElem_cons_succ, List.setIfInBounds_toArray, List.set_cons_zero, List.set_cons_succ]
                        refine wpAnyH_take (i := 13) (v := ?_) rfl (by kernel_rfl) (by kernel_rfl) (by kernel_rfl) (fun _ _ _ h => h) (Or.inl ⟨by kernel_rfl, ?_⟩) hHeld ?_
                        rotate_left
                        · intro W hSw
                          have hsl := HLU.out
                          clear hSw
                          go_simp <;> with_reducible rfl
                        simp only [Act.put, List.getElem_toArray, List.getElem_cons_zero, List.getElem_cons_succ, List.setIfInBounds_toArray, List.set_cons_zero, List.set_cons_succ]
                        refine wpAnyH_take (i := 14) (v := ?_) rfl (by kernel_rfl) (by kernel_rfl) (by kernel_rfl) (fun _ _ _ h => h) (Or.inl ⟨by kernel_rfl, ?_⟩) hHeld ?_
                        rotate_left
                        · intro W hSw
                          have hcv := (HUU.out _ hSw).2.2 s hs12
                          clear hSw
                          go_simp <;> with_reducible rfl
                        simp only [Act.put, List.getElem_toArray, List.getElem_cons_zero, List.getElem_cons_succ, List.setIfInBounds_toArray, List.set_cons_zero, List.set_cons_succ]
                        refine wpAnyH_take (i := 15) (v := ?_) rfl (by kernel_rfl) (by kernel_rfl) (by kernel_rfl) (fun _ _ _ h => h) (Or.inl ⟨by kernel_rfl, ?_⟩) hHeld ?_
                        rotate_left
                        · intro W hSw
                          clear hSw
                          go_simp <;> with_reducible rfl
                        simp only [Act.put, List.getElem_toArray, List.getElem_cons_zero, List.getElem_cons_succ, List.setIfInBounds_toArray, List.set_cons_zero, List.set_cons_succ]
                        refine wpAnyH_take (i := 16) (v := ?_) rfl (by kernel_rfl) (by kernel_rfl) (by kernel_rfl) (fun _ _ _ h => h) (Or.inl ⟨by kernel_rfl, ?_⟩) hHeld ?_
                        rotate_left
                        · intro W hSw
                          clear hSw
                          go_simp <;> with_reducible rfl
                        simp only [Act.put, List.getElem_toArray, List.getElem_cons_zero, List.getElem_cons_succ, List.setIfInBounds_toArray, List.set_cons_zero, List.set_cons_succ]
                        refine wpAnyH_take (i := 17) (v := ?_) rfl (by kernel_rfl) (by kernel_rfl) (by kernel_rfl) (fun _ _ _ h => h) (Or.inl ⟨by kernel_rfl, ?_⟩) hHeld ?_
                        rotate_left
                        · intro W hSw
                          clear hSw
                          go_simp <;> with_reducible rfl
                        simp only [Act.put, List.getElem_toArray, List.getElem_cons_zero, List.getElem_cons_succ, List.setIfInBounds_toArray, List.set_cons_zero, List.set_cons_succ]
                        refine wpAnyH_done (by kernel_rfl) ?_ _
                        have B4 := hide hHeld
                        clear hHeld
                        go_wp2
                        go_roundw
                        case rel => exact ⟨j + 1, _, rfl, by go_num, by omega, hide (by show (okB _ _ _ s j || _) = _; rw [HO.out, Bool.false_or]), B4⟩
                        case measure => simp [intOf]; omega
                      · have HO2 : Hid (okB (crashW ws keep) (dumpW []) (fun j => dumpW (ws.take (j + 1))) s (j + 1) = true) := hide (by show (okB _ _ _ s j || _) = _; rw [HO.out]; rfl)
                        clear hU hea HO HU1 HK1
                        go_wp2_with fail
                        refine wp_region_held_drew (S := fun W' => Below x9.heap.size x9 W') (by kernel_rfl) B3.out.drew (fun hHeld => ?_)
                        refine wpAnyH_take (i := 0) (v := ?_) rfl (by kernel_rfl) (by kernel_rfl) (by kernel_rfl) (fun _ _ _ h => h) (Or.inl ⟨by kernel_rfl, ?_⟩) hHeld ?_
                        rotate_left
                        · intro W hSw
                          clear hSw
                          go_simp <;> with_reducible rfl
                        simp only [Act.put, List.getElem_toArray, List.getElem_cons_zero, List.getElem_cons_succ, List.setIfInBounds_toArray, List.set_cons_zero, List.set_cons_succ]
                        refine wpAnyH_take (i := 1) (v := ?_) rfl (by kernel_rfl) (by kernel_rfl) (by kernel_rfl) (fun _ _ _ h => h) (Or.inl ⟨by kernel_rfl, ?_⟩) hHeld ?_
                        rotate_left
                        · intro W hSw
                          clear hSw
                          go_simp <;> with_reducible rfl
                        simp only [Act.put, List.getElem_toArray, List.getElem_cons_zero, List.getElem_cons_succ, List.setIfInBounds_toArray, List.set_cons_zero, List.set_cons_succ]
                        refine wpAnyH_take (i := 2) (v := undef) rfl (by kernel_rfl) (by kernel_rfl) (by kernel_rfl) (fun _ _ _ h => h) (Or.inr ⟨by kernel_rfl, rfl⟩) hHeld ?_
                        simp only [Act.put, List.getElem_toArray, List.getElem_cons_zero, List.getElem_cons_succ, List.setIfInBounds_toArray, List.set_cons_zero, List.set_cons_succ]
                        refine wpAnyH_take (i := 3) (v := undef) rfl (by kernel_rfl) (by kernel_rfl) (by kernel_rfl) (fun _ _ _ h => h) (Or.inr ⟨by kernel_rfl, rfl⟩) hHeld ?_
                        simp only [Act.put, List.getElem_toArray, List.getElem_cons_zero, List.getElem_cons_succ, List.setIfInBounds_toArray, List.set_cons_zero, List.set_cons_succ]
                        refine wpAnyH_take (i := 4) (v := undef) rfl (by kernel_rfl) (by kernel_rfl) (by kernel_rfl) (fun _ _ _ h => h) (Or.inr ⟨by kernel_rfl, rfl⟩) hHeld ?_
                        simp only [Act.put, List.getElem_toArray, List.getElem_cons_zero, List.getElem_cons_succ, List.setIfInBounds_toArray, List.set_cons_zero, List.set_cons_succ]
                        refine wpAnyH_take (i := 5) (v := undef) rfl (by kernel_rfl) (by kernel_rfl) (by kernel_rfl) (fun _ _ _ h => h) (Or.inr ⟨by kernel_rfl, rfl⟩) hHeld ?_
                        simp only [Act.put, List.getElem_toArray, List.getElem_cons_zero, List.getElem_cons_succ, List.setIfInBounds_toArray, List.set_cons_zero, List.set_cons_succ]
                        refine wpAnyH_take (i := 6) (v := undef) rfl (by kernel_rfl) (by kernel_rfl) (by kernel_rfl) (fun _ _ _ h => h) (Or.inr ⟨by kernel_rfl, rfl⟩) hHeld ?_
                        simp only [Act.put, List.getElem_toArray, List.getElem_cons_zero, List.getElem_cons_succ, List.setIfInBounds_toArray, List.set_cons_zero, List.set_cons_succ]
                        refine wpAnyH_take (i := 7) (v := undef) rfl (by kernel_rfl) (by kernel_rfl) (by kernel_rfl) (fun _ _ _ h => h) (Or.inr ⟨by kernel_rfl, rfl⟩) hHeld ?_
                        simp only [Act.put, List.getElem_toArray, List.getElem_cons_zero, List.getElem_cons_succ, List.setIfInBounds_toArray, List.set_cons_zero, List.set_cons_succ]
                        refine wpAnyH_take (i := 8) (v := undef) rfl (by kernel_rfl) (by kernel_rfl) (by kernel_rfl) (fun _ _ _ h => h) (Or.inr ⟨by kernel_rfl, rfl⟩) hHeld ?_
                        simp only [Act.put, List.getElem_toArray, List.getElem_cons_zero, List.getElem_cons_succ, List.setIfInBounds_toArray, List.set_cons_zero, List.set_cons_succ]
                        refine wpAnyH_take (i := 9) (v := undef) rfl (by kernel_rfl) (by kernel_rfl) (by kernel_rfl) (fun _ _ _ h => h) (Or.inr ⟨by kernel_rfl, rfl⟩) hHeld ?_
                        simp only [Act.put, List.getElem_toArray, List.getElem_cons_zero, List.getElem_cons_succ, List.setIfInBounds_toArray, List.set_cons_zero, List.set_cons_succ]
                        refine wpAnyH_take (i := 10) (v := undef) rfl (by kernel_rfl) (by kernel_rfl) (by kernel_rfl) (fun _ _ _ h => h) (Or.inr ⟨by kernel_rfl, rfl⟩) hHeld ?_
                        simp only [Act.put, List.getElem_toArray, List.getElem_cons_zero, List.getElem_cons_succ, List.setIfInBounds_toArray, List.set_cons_zero, List.set_cons_succ]
                        refine wpAnyH_take (i := 11) (v := undef) rfl (by kernel_rfl) (by kernel_rfl) (by kernel_rfl) (fun _ _ _ h => h) (Or.inr ⟨by kernel_rfl, rfl⟩) hHeld ?_
                        simp only [Act.put, List.getElem_toArray, List.getElem_cons_zero, List.getElem_cons_succ, List.setIfInBounds_toArray, List.set_cons_zero, List.set_cons_succ]
                        refine wpAnyH_take (i := 12) (v := undef) rfl (by kernel_rfl) (by kernel_rfl) (by kernel_rfl) (fun _ _ _ h => h) (Or.inr ⟨by kernel_rfl, rfl⟩) hHeld ?_
                        simp only [Act.put, List.getElem_toArray, List.getElem_cons_zero, List.getElem_cons_succ, List.setIfInBounds_toArray, List.set_cons_zero, List.set_cons_succ]
                        refine wpAnyH_take (i := 13) (v := undef) rfl (by kernel_rfl) (by kernel_rfl) (by kernel_rfl) (fun _ _ _ h => h) (Or.inr ⟨by kernel_rfl, rfl⟩) hHeld ?_
                        simp only [Act.put, List.getElem_toArray, List.getElem_cons_zero, List.getElem_cons_succ, List.setIfInBounds_toArray, List.set_cons_zero, List.set_cons_succ]
                        refine wpAnyH_take (i := 14) (v := undef) rfl (by kernel_rfl) (by kernel_rfl) (by kernel_rfl) (fun _ _ _ h => h) (Or.inr ⟨by kernel_rfl, rfl⟩) hHeld ?_
                        simp only [Act.put, List.getElem_toArray, List.getElem_cons_zero, List.getElem_cons_succ, List.setIfInBounds_toArray, List.set_cons_zero, List.set_cons_succ]
                        refine wpAnyH_take (i := 15) (v := undef) rfl (by kernel_rfl) (by kernel_rfl) (by kernel_rfl) (fun _ _ _ h => h) (Or.inr ⟨by kernel_rfl, rfl⟩) hHeld ?_
                        simp only [Act.put, List.getElem_toArray, List.getElem_cons_zero, List.getElem_cons_succ, List.setIfInBounds_toArray, List.set_cons_zero, List.set_cons_succ]
                        refine wpAnyH_take (i := 16) (v := .bool true) rfl (by kernel_rfl) (by kernel_rfl) (by kernel_rfl) (fun _ _ _ h => h) (Or.inl ⟨by kernel_rfl, fun _ _ => by go_simp⟩) hHeld ?_
                        simp only [Act.put, List.getElem_toArray, List.getElem_cons_zero, List.getElem_cons_succ, List.setIfInBounds_toArray, List.set_cons_zero, List.set_cons_succ]
                        refine wpAnyH_take (i := 17) (v := ?_) rfl (by kernel_rfl) (by kernel_rfl) (by kernel_rfl) (fun _ _ _ h => h) (Or.inl ⟨by kernel_rfl, ?_⟩) hHeld ?_
                        rotate_left
                        · intro W hSw
                          clear hSw
                          go_simp <;> with_reducible rfl
                        simp only [Act.put, List.getElem_toArray, List.getElem_cons_zero, List.getElem_cons_succ, List.setIfInBounds_toArray, List.set_cons_zero, List.set_cons_succ]
                        refine wpAnyH_done (by kernel_rfl) ?_ _
                        have B4 := hide hHeld
                        clear hHeld
                        go_wp2
                        go_roundw
                        case rel => exact ⟨j + 1, true, rfl, by go_num, by omega, HO2, B4⟩
                        case measure => simp [intOf]; omega
                    · have hjk2 : ¬ (j : Int) < k := by omega
                      obtain rfl : b2 = true := by
                        have hjj : j = k := by omega
                        rw [← HO.out, hjj]
                        exact HK1.out
                      clear HO HU1 HK1 HVN HLN
                      go_wp2
                      go_roundw
                      case rel => exact ⟨s + 1, by go_num, by omega, B3⟩
                      case measure => simp [intOf]; omega
                · have hs1 : ¬ (s : Int) < 12 := by omega
                  have HY := hide (HB9.out wr B.out)
                  clear HSN HSW HOK HSU HCN HB9
                  go_wp2_with fail
                  refine (HAL.out _).mono ?_
                  rintro e z1 ⟨rfl, bz⟩
                  have HZ2 := hide (bel_on HY.out bz)
                  clear HAL bz
                  go_wp2
                  go_ret
                  exact ⟨rfl, HZ2.out⟩
            · clear HREG HLA
              go_wp2_with fail
              refine wp_region_held_drew (S := fun W' => Below x9.heap.size x9 W') (by kernel_rfl) (Below.refl _ x9).drew (fun hHeld => ?_)
              refine wpAnyH_take (i := 0) (v := ?_) rfl (by kernel_rfl) (by kernel_rfl) (by kernel_rfl) (fun _ _ _ h => h) (Or.inl ⟨by kernel_rfl, ?_⟩) hHeld ?_
              rotate_left
              · intro W hSw
                clear hSw
                go_simp <;> with_reducible rfl
              simp only [Act.put, List.getElem_toArray, List.getElem_cons_zero, List.getElem_cons_succ, List.setIfInBounds_toArray, List.set_cons_zero, List.set_cons_succ]
              refine wpAnyH_take (i := 1) (v := .int .i64 768) rfl (by kernel_rfl) (by kernel_rfl) (by kernel_rfl) (fun _ _ _ h => h) (Or.inl ⟨by kernel_rfl, fun _ _ => by go_simp⟩) hHeld ?_
              simp only [Act.put, List.getElem_toArray, List.getElem_cons_zero, List.getElem_cons_succ, List.setIfInBounds_toArray, List.set_cons_zero, List.set_cons_succ]
              refine wpAnyH_take (i := 2) (v := .bool false) rfl (by kernel_rfl) (by kernel_rfl) (by kernel_rfl) (fun _ _ _ h => h) (Or.inl ⟨by kernel_rfl, fun _ _ => by go_simp⟩) hHeld ?_
              simp only [Act.put, List.getElem_toArray, List.getElem_cons_zero, List.getElem_cons_succ, List.setIfInBounds_toArray, List.set_cons_zero, List.set_cons_succ]
              refine wpAnyH_take (i := 3) (v := .bool false) rfl (by kernel_rfl) (by kernel_rfl) (by kernel_rfl) (fun _ _ _ h => h) (Or.inl ⟨by kernel_rfl, fun _ _ => by go_simp⟩) hHeld ?_
              simp only [Act.put, List.getElem_toArray, List.getElem_cons_zero, List.getElem_cons_succ, List.setIfInBounds_toArray, List.set_cons_zero, List.set_cons_succ]
              refine wpAnyH_take (i := 4) (v := ?_) rfl (by kernel_rfl) (by kernel_rfl) (by kernel_rfl) (fun _ _ _ h => h) (Or.inl ⟨by kernel_rfl, ?_⟩) hHeld ?_
              rotate_left
              · intro W hSw
                clear hSw
                go_simp <;> with_reducible rfl
              simp only [Act.put, List.getElem_toArray, List.getElem_cons_zero, List.getElem_cons_succ, List.setIfInBounds_toArray, List.set_cons_zero, List.set_cons_succ]
              refine wpAnyH_take (i := 5) (v := ?_) rfl (by kernel_rfl) (by kernel_rfl) (by kernel_rfl) (fun _ _ _ h => h) (Or.inl ⟨by kernel_rfl, ?_⟩) hHeld ?_
              rotate_left
              · intro W hSw
                clear hSw
                go_simp <;> with_reducible rfl
              simp only [Act.put, List.getElem_toArray, List.getElem_cons_zero, List.getElem_cons_succ, List.setIfInBounds_toArray, List.set_cons_zero, List.set_cons_succ]
              refine wpAnyH_take (i := 6) (v := ?_) rfl (by kernel_rfl) (by kernel_rfl) (by kernel_rfl) (fun _ _ _ h => h) (Or.inl ⟨by kernel_rfl, ?_⟩) hHeld ?_
              rotate_left
              · intro W hSw
                clear hSw
                go_simp <;> with_reducible rfl
              simp only [Act.put, List.getElem_toArray, List.getElem_cons_zero, List.getElem_cons_succ, List.setIfInBounds_toArray, List.set_cons_zero, List.set_cons_succ]
              refine wpAnyH_take (i := 7) (v := ?_) rfl (by kernel_rfl) (by kernel_rfl) (by kernel_rfl) (fun _ _ _ h => h) (Or.inl ⟨by kernel_rfl, ?_⟩) hHeld ?_
              rotate_left
              · intro W hSw
                clear hSw
                go_simp <;> with_reducible rfl
              simp only [Act.put, List.getElem_toArray, List.getElem_cons_zero, List.getElem_cons_succ, List.setIfInBounds_toArray, List.set_cons_zero, List.set_cons_succ]
              refine wpAnyH_take (i := 8) (v := .bool false) rfl (by kernel_rfl) (by kernel_rfl) (by kernel_rfl) (fun _ _ _ h => h) (Or.inl ⟨by kernel_rfl, fun _ _ => by go_simp⟩) hHeld ?_
              simp only [Act.put, List.getElem_toArray, List.getElem_cons_zero, List.getElem_cons_succ, List.setIfInBounds_toArray, List.set_cons_zero, List.set_cons_succ]
              refine wpAnyH_take (i := 9) (v := .bool false) rfl (by kernel_rfl) (by kernel_rfl) (by kernel_rfl) (fun _ _ _ h => h) (Or.inl ⟨by kernel_rfl, fun _ _ => by go_simp⟩) hHeld ?_
              simp only [Act.put, List.getElem_toArray, List.getElem_cons_zero, List.getElem_cons_succ, List.setIfInBounds_toArray, List.set_cons_zero, List.set_cons_succ]
              refine wpAnyH_take (i := 10) (v := .bool false) rfl (by kernel_rfl) (by kernel_rfl) (by kernel_rfl) (fun _ _ _ h => h) (Or.inl ⟨by kernel_rfl, fun _ _ => by go_simp⟩) hHeld ?_
              simp only [Act.put, List.getElem_toArray, List.getElem_cons_zero, List.getElem_cons_succ, List.setIfInBounds_toArray, List.set_cons_zero, List.set_cons_succ]
              refine wpAnyH_take (i := 11) (v := undef) rfl (by kernel_rfl) (by kernel_rfl) (by kernel_rfl) (fun _ _ _ h => h) (Or.inr ⟨by kernel_rfl, rfl⟩) hHeld ?_
              simp only [Act.put, List.getElem_toArray, List.getElem_cons_zero, List.getElem_cons_succ, List.setIfInBounds_toArray, List.set_cons_zero, List.set_cons_succ]
              refine wpAnyH_take (i := 12) (v := undef) rfl (by kernel_rfl) (by kernel_rfl) (by kernel_rfl) (fun _ _ _ h => h) (Or.inr ⟨by kernel_rfl, rfl⟩) hHeld ?_
              simp only [Act.put, List.getElem_toArray, List.getElem_cons_zero, List.getElem_cons_succ, List.setIfInBounds_toArray, List.set_cons_zero, List.set_cons_succ]
              refine wpAnyH_take (i := 13) (v := undef) rfl (by kernel_rfl) (by kernel_rfl) (by kernel_rfl) (fun _ _ _ h => h) (Or.inr ⟨by kernel_rfl, rfl⟩) hHeld ?_
              simp only [Act.put, List.getElem_toArray, List.getElem_cons_zero, List.getElem_cons_succ, List.setIfInBounds_toArray, List.set_cons_zero, List.set_cons_succ]
              refine wpAnyH_take (i := 14) (v := undef) rfl (by kernel_rfl) (by kernel_rfl) (by kernel_rfl) (fun _ _ _ h => h) (Or.inr ⟨by kernel_rfl, rfl⟩) hHeld ?_
              simp only [Act.put, List.getElem_toArray, List.getElem_cons_zero, List.getElem_cons_succ, List.setIfInBounds_toArray, List.set_cons_zero, List.set_cons_succ]
              refine wpAnyH_take (i := 15) (v := undef) rfl (by kernel_rfl) (by kernel_rfl) (by kernel_rfl) (fun _ _ _ h => h) (Or.inr ⟨by kernel_rfl, rfl⟩) hHeld ?_
              simp only [Act.put, List.getElem_toArray, List.getElem_cons_zero, List.getElem_cons_succ, List.setIfInBounds_toArray, List.set_cons_zero, List.set_cons_succ]
              refine wpAnyH_take (i := 16) (v := undef) rfl (by kernel_rfl) (by kernel_rfl) (by kernel_rfl) (fun _ _ _ h => h) (Or.inr ⟨by kernel_rfl, rfl⟩) hHeld ?_
              simp only [Act.put, List.getElem_toArray, List.getElem_cons_zero, List.getElem_cons_succ, List.setIfInBounds_toArray, List.set_cons_zero, List.set_cons_succ]
              refine wpAnyH_take (i := 17) (v := undef) rfl (by kernel_rfl) (by kernel_rfl) (by kernel_rfl) (fun _ _ _ h => h) (Or.inr ⟨by kernel_rfl, rfl⟩) hHeld ?_
              simp only [Act.put, List.getElem_toArray, List.getElem_cons_zero, List.getElem_cons_succ, List.setIfInBounds_toArray, List.set_cons_zero, List.set_cons_succ]
              refine wpAnyH_take (i := 18) (v := undef) rfl (by kernel_rfl) (by kernel_rfl) (by kernel_rfl) (fun _ _ _ h => h) (Or.inr ⟨by kernel_rfl, rfl⟩) hHeld ?_
              simp only [Act.put, List.getElem_toArray, List.getElem_cons_zero, List.getElem_cons_succ, List.setIfInBounds_toArray, List.set_cons_zero, List.set_cons_succ]
              refine wpAnyH_take (i := 19) (v := undef) rfl (by kernel_rfl) (by kernel_rfl) (by kernel_rfl) (fun _ _ _ h => h) (Or.inr ⟨by kernel_rfl, rfl⟩) hHeld ?_
              simp only [Act.put, List.getElem_toArray, List.getElem_cons_zero, List.getElem_cons_succ, List.setIfInBounds_toArray, List.set_cons_zero, List.set_cons_succ]
              refine wpAnyH_take (i := 20) (v := undef) rfl (by kernel_rfl) (by kernel_rfl) (by kernel_rfl) (fun _ _ _ h => h) (Or.inr ⟨by kernel_rfl, rfl⟩) hHeld ?_
              simp only [Act.put, List.getElem_toArray, List.getElem_cons_zero, List.getElem_cons_succ, List.setIfInBounds_toArray, List.set_cons_zero, List.set_cons_succ]
              refine wpAnyH_take (i := 21) (v := .bool false) rfl (by kernel_rfl) (by kernel_rfl) (by kernel_rfl) (fun _ _ _ h => h) (Or.inl ⟨by kernel_rfl, fun _ _ => by go_simp⟩) hHeld ?_
              simp only [Act.put, List.getElem_toArray, List.getElem_cons_zero, List.getElem_cons_succ, List.setIfInBounds_toArray, List.set_cons_zero, List.set_cons_succ]
              refine wpAnyH_take (i := 22) (v := .bool false) rfl (by kernel_rfl) (by kernel_rfl) (by kernel_rfl) (fun _ _ _ h => h) (Or.inl ⟨by kernel_rfl, fun _ _ => by go_simp⟩) hHeld ?_
              simp only [Act.put, List.getElem_toArray, List.getElem_cons_zero, List.getElem_cons_succ, List.setIfInBounds_toArray, List.set_cons_zero, List.set_cons_succ]
              refine wpAnyH_done (by kernel_rfl) ?_ _
              have HZ := hide hHeld
              clear hHeld
              go_wp2
              try clear hwk
              try clear hlt
              try clear hq3
              try clear hq
              try clear hi2
              try clear hlt2
              try clear hlt3
              try clear hik
              try clear hFl
              try clear hL0
              try clear hkl9
              go_loopw [15] (fun vi wr => ∃ s : Nat, vi = .int .i64 (s : Int) ∧ s ≤ 12 ∧ Hid (Below x9.heap.size x9 wr)) (fun vi _ => 12 - (intOf vi).toNat)
              case atStart => exact ⟨0, rfl, Nat.zero_le _, HZ⟩
              case round =>
                clear HZ
                obtain ⟨s, rfl, hs, B⟩ := hrel
                by_cases hs12 : s < 12
                · have hs1 : (s : Int) < 12 := by omega
                  have hm1 : wrap64 ((s : Int) * 64) = (s : Int) * 64 := by unfold wrap64; omega
                  have hm2 : wrap64 ((s : Int) + 1) = (s : Int) + 1 := by unfold wrap64; omega
                  have hm3 : wrap64 (((s : Int) + 1) * 64) = ((s : Int) + 1) * 64 := by unfold wrap64; omega
                  have HLN := hide (sec_slice gn on cn s hs12 hcn)
                  have HLW := hide (sec_slice gw ow cw s hs12 hcw)
                  have HVN := hide (HSN.out s hs12)
                  have HVW := hide (HSW.out s hs12)
                  have HK1 := hide (HOK.out s hs12)
                  have HU1 := hide (fun j (hj : j < 0) => HSU.out j hj)
                  clear HSN HSW HOK HSU HAL HCN
                  go_wp2_with fail
                  refine wp_region_held_drew (S := fun W' => Below x9.heap.size x9 W') (by kernel_rfl) B.out.drew (fun hHeld => ?_)
                  refine wpAnyH_take (i := 0) (v := ?_) rfl (by kernel_rfl) (by kernel_rfl) (by kernel_rfl) (fun _ _ _ h => h) (Or.inl ⟨by kernel_rfl, ?_⟩) hHeld ?_
                  rotate_left
                  · intro W hSw
                    clear hSw
                    go_simp <;> with_reducible rfl
                  simp only [Act.put, List.getElem_toArray, List.getElem_cons_zero, List.getElem_cons_succ, List.setIfInBounds_toArray, List.set_cons_zero, List.set_cons_succ]
                  refine wpAnyH_take (i := 1) (v := ?_) rfl (by kernel_rfl) (by kernel_rfl) (by kernel_rfl) (fun _ _ _ h => h) (Or.inl ⟨by kernel_rfl, ?_⟩) hHeld ?_
                  rotate_left
                  · intro W hSw
                    clear hSw
                    go_simp <;> with_reducible rfl
                  simp only [Act.put, List.getElem_toArray, List.getElem_cons_zero, List.getElem_cons_succ, List.setIfInBounds_toArray, List.set_cons_zero, List.set_cons_succ]
                  refine wpAnyH_take (i := 2) (v := ?_) rfl (by kernel_rfl) (by kernel_rfl) (by kernel_rfl) (fun _ _ _ h => h) (Or.inl ⟨by kernel_rfl, ?_⟩) hHeld ?_
                  rotate_left
                  · intro W hSw
                    clear hSw
                    go_simp <;> with_reducible rfl
                  simp only [Act.put, List.getElem_toArray, List.getElem_cons_zero, List.getElem_cons_succ, List.setIfInBounds_toArray, List.set_cons_zero, List.set_cons_succ]
                  refine wpAnyH_take (i := 3) (v := ?_) rfl (by kernel_rfl) (by kernel_rfl) (by kernel_rfl) (fun _ _ _ h => h) (Or.inl ⟨by kernel_rfl, ?_⟩) hHeld ?_
                  rotate_left
                  · intro W hSw
                    have hsl := HLN.out
                    clear hSw
                    go_simp <;> with_reducible rfl
                  simp only [Act.put, List.getElem_toArray, List.getElem_cons_zero, List.getElem_cons_succ, List.setIfInBounds_toArray, List.set_cons_zero, List.set_cons_succ]
                  refine wpAnyH_take (i := 4) (v := ?_) rfl (by kernel_rfl) (by kernel_rfl) (by kernel_rfl) (fun _ _ _ h => h) (Or.inl ⟨by kernel_rfl, ?_⟩) hHeld ?_
                  rotate_left
                  · intro W hSw
                    have hcv := HVN.out _ hSw
                    clear hSw
                    go_simp <;> with_reducible rfl
                  simp only [Act.put, List.getElem_toArray, List.getElem_cons_zero, List.getElem_cons_succ, List.setIfInBounds_toArray, List.set_cons_zero, List.set_cons_succ]
                  refine wpAnyH_take (i := 5) (v := ?_) rfl (by kernel_rfl) (by kernel_rfl) (by kernel_rfl) (fun _ _ _ h => h) (Or.inl ⟨by kernel_rfl, ?_⟩) hHeld ?_
                  rotate_left
                  · intro W hSw
                    clear hSw
                    go_simp <;> with_reducible rfl
                  simp only [Act.put, List.getElem_toArray, List.getElem_cons_zero, List.getElem_cons_succ, List.setIfInBounds_toArray, List.set_cons_zero, List.set_cons_succ]
                  refine wpAnyH_take (i := 6) (v := ?_) rfl (by kernel_rfl) (by kernel_rfl) (by kernel_rfl) (fun _ _ _ h => h) (Or.inl ⟨by kernel_rfl, ?_⟩) hHeld ?_
                  rotate_left
                  · intro W hSw
                    clear hSw
                    go_simp <;> with_reducible rfl
                  simp only [Act.put, List.getElem_toArray, List.getElem_cons_zero, List.getElem_cons_succ, List.setIfInBounds_toArray, List.set_cons_zero, List.set_cons_succ]
                  refine wpAnyH_take (i := 7) (v := ?_) rfl (by kernel_rfl) (by kernel_rfl) (by kernel_rfl) (fun _ _ _ h => h) (Or.inl ⟨by kernel_rfl, ?_⟩) hHeld ?_
                  rotate_left
                  · intro W hSw
                    clear hSw
                    go_simp <;> with_reducible rfl
                  simp only [Act.put, List.getElem_toArray, List.getElem_cons_zero, List.getElem_cons_succ, List.setIfInBounds_toArray, List.set_cons_zero, List.set_cons_succ]
                  refine wpAnyH_take (i := 8) (v := ?_) rfl (by kernel_rfl) (by kernel_rfl) (by kernel_rfl) (fun _ _ _ h => h) (Or.inl ⟨by kernel_rfl, ?_⟩) hHeld ?_
                  rotate_left
                  · intro W hSw
                    have hsl := HLW.out
                    clear hSw
                    go_simp <;> with_reducible rfl
                  simp only [Act.put, List.getElem_toArray, List.getElem_cons_zero, List.getElem_cons_succ, List.setIfInBounds_toArray, List.set_cons_zero, List.set_cons_succ]
                  refine wpAnyH_take (i := 9) (v := ?_) rfl (by kernel_rfl) (by kernel_rfl) (by kernel_rfl) (fun _ _ _ h => h) (Or.inl ⟨by kernel_rfl, ?_⟩) hHeld ?_
                  rotate_left
                  · intro W hSw
                    have hcv := HVW.out _ hSw
                    clear hSw
                    go_simp <;> with_reducible rfl
                  simp only [Act.put, List.getElem_toArray, List.getElem_cons_zero, List.getElem_cons_succ, List.setIfInBounds_toArray, List.set_cons_zero, List.set_cons_succ]
                  refine wpAnyH_take (i := 10) (v := ?_) rfl (by kernel_rfl) (by kernel_rfl) (by kernel_rfl) (fun _ _ _ h => h) (Or.inl ⟨by kernel_rfl, ?_⟩) hHeld ?_
                  rotate_left
                  · intro W hSw
                    clear hSw
                    go_simp <;> with_reducible rfl
                  simp only [Act.put, List.getElem_toArray, List.getElem_cons_zero, List.getElem_cons_succ, List.setIfInBounds_toArray, List.set_cons_zero, List.set_cons_succ]
                  refine wpAnyH_take (i := 11) (v := ?_) rfl (by kernel_rfl) (by kernel_rfl) (by kernel_rfl) (fun _ _ _ h => h) (Or.inl ⟨by kernel_rfl, ?_⟩) hHeld ?_
                  rotate_left
                  · intro W hSw
                    clear hSw
                    go_simp <;> with_reducible rfl
                  simp only [Act.put, List.getElem_toArray, List.getElem_cons_zero, List.getElem_cons_succ, List.setIfInBounds_toArray, List.set_cons_zero, List.set_cons_succ]
                  refine wpAnyH_done (by kernel_rfl) ?_ _
                  have B2 := hide hHeld
                  clear hHeld HVW HLW
                  go_wp2
                  generalize wr = wz at *
                  go_loopw [18, 19] (fun vb vi wr => ∃ (j : Nat) (b2 : Bool), vb = .bool b2 ∧ vi = .int .i64 (j : Int) ∧ j ≤ 0 ∧ Hid (okB (crashW ws keep) (dumpW []) (fun j => dumpW (ws.take (j + 1))) s j = b2) ∧ Hid (Below x9.heap.size x9 wr)) (fun _ vi _ => 0 - (intOf vi).toNat)
                  case atStart => exact ⟨0, _, rfl, rfl, Nat.zero_le _, hide (by first | rfl | simp [okB]), B2⟩
                  case round =>
                    clear B2
                    obtain ⟨j, b2, rfl, rfl, hj, HO, B3⟩ := hrel
                    by_cases hjk : j < 0
                    · have hjk2 : (j : Int) < 0 := by omega
                      obtain ⟨ga, gu, ou, cu, hea, hcu, hU⟩ := HU1.out j hjk
                      cases b2
                      · have HLU := hide (sec_slice gu ou cu s hs12 hcu)
                        have HUU := hide hU
                        try injection hea with hea
                        try injection hea with hea1 hea2
                        try subst hea1
                        try subst hea
                        clear hU HU1 HK1
                        go_wp2_with fail
                        refine wp_region_held_drew (S := fun W' => Below x9.heap.size x9 W') (by kernel_rfl) B3.out.drew (fun hHeld => ?_)
                        refine wpAnyH_take (i := 0) (v := ?_) rfl (by kernel_rfl) (by kernel_rfl) (by kernel_rfl) (fun _ _ _ h => h) (Or.inl ⟨by kernel_rfl, ?_⟩) hHeld ?_
                        rotate_left
                        · intro W hSw
                          clear hSw
                          go_simp <;> with_reducible rfl
                        simp only [Act.put, List.getElem_toArray, List.getElem_cons_zero, List.getElem_cons_succ, List.setIfInBounds_toArray, List.set_cons_zero, List.set_cons_succ]
                        refine wpAnyH_take (i := 1) (v := ?_) rfl (by kernel_rfl) (by kernel_rfl) (by kernel_rfl) (fun _ _ _ h => h) (Or.inl ⟨by kernel_rfl, ?_⟩) hHeld ?_
                        rotate_left
                        · intro W hSw
                          clear hSw
                          go_simp <;> with_reducible rfl
                        simp only [Act.put, List.getElem_toArray, List.getElem_cons_zero, List.getElem_cons_succ, List.setIfInBounds_toArray, List.set_cons_zero, List.set_cons_succ]
                        refine wpAnyH_take (i := 2) (v := ?_) rfl (by kernel_rfl) (by kernel_rfl) (by kernel_rfl) (fun _ _ _ h => h) (Or.inl ⟨by kernel_rfl, ?_⟩) hHeld ?_
                        rotate_left
                        · intro W hSw
                          clear hSw
                          go_simp <;> with_reducible rfl
                        simp only [Act.put, List.getElem_toArray, List.getElem_cons_zero, List.getElem_cons_succ, List.setIfInBounds_toArray, List.set_cons_zero, List.set_cons_succ]
                        refine wpAnyH_take (i := 3) (v := ?_) rfl (by kernel_rfl) (by kernel_rfl) (by kernel_rfl) (fun _ _ _ h => h) (Or.inl ⟨by kernel_rfl, ?_⟩) hHeld ?_
                        rotate_left
                        · intro W hSw
                          clear hSw
                          go_simp <;> with_reducible rfl
                        simp only [Act.put, List.getElem_toArray, List.getElem_cons_zero, List.getElem_cons_succ, List.setIfInBounds_toArray, List.set_cons_zero, List.set_cons_succ]
                        refine wpAnyH_take (i := 4) (v := ?_) rfl (by kernel_rfl) (by kernel_rfl) (by kernel_rfl) (fun _ _ _ h => h) (Or.inl ⟨by kernel_rfl, ?_⟩) hHeld ?_
                        rotate_left
                        · intro W hSw
                          clear hSw
                          go_simp <;> with_reducible rfl
                        simp only [Act.put, List.getElem_toArray, List.getElem_cons_zero, List.getElem_cons_succ, List.setIfInBounds_toArray, List.set_cons_zero, List.set_cons_succ]
                        refine wpAnyH_take (i := 5) (v := ?_) rfl (by kernel_rfl) (by kernel_rfl) (by kernel_rfl) (fun _ _ _ h => h) (Or.inl ⟨by kernel_rfl, ?_⟩) hHeld ?_
                        rotate_left
                        · intro W hSw
                          have hsl := HLN.out
                          clear hSw
                          go_simp <;> with_reducible rfl
                        simp only [Act.put, List.getElem_toArray, List.getElem_cons_zero, List.getElem_cons_succ, List.setIfInBounds_toArray, List.set_cons_zero, List.set_cons_succ]
                        refine wpAnyH_take (i := 6) (v := ?_) rfl (by kernel_rfl) (by kernel_rfl) (by kernel_rfl) (fun _ _ _ h => h) (Or.inl ⟨by kernel_rfl, ?_⟩) hHeld ?_
                        rotate_left
                        · intro W hSw
                          have hcv := HVN.out _ hSw
                          clear hSw
                          go_simp <;> with_reducible rfl
                        simp only [Act.put, List.getElem_toArray, List.getElem_cons_zero, List.getElem_cons_succ, List.setIfInBounds_toArray, List.set_cons_zero, List.set_cons_succ]
                        refine wpAnyH_take (i := 7) (v := ?_) rfl (by kernel_rfl) (by kernel_rfl) (by kernel_rfl) (fun _ _ _ h => h) (Or.inl ⟨by kernel_rfl, ?_⟩) hHeld ?_
                        rotate_left
                        · intro W hSw
                          clear hSw
                          go_simp <;> with_reducible rfl
                        simp only [Act.put, List.getElem_toArray, List.getElem_cons_zero, List.getElem_cons_succ, List.setIfInBounds_toArray, List.set_cons_zero, List.set_cons_succ]
                        refine wpAnyH_take (i := 8) (v := ?_) rfl (by kernel_rfl) (by kernel_rfl) (by kernel_rfl) (fun _ _ _ h => h) (Or.inl ⟨by kernel_rfl, ?_⟩) hHeld ?_
                        rotate_left
                        · intro W hSw
                          clear hSw
                          go_simp <;> with_reducible rfl
                        simp only [Act.put, List.getElem_toArray, List.getElem_cons_zero, List.getElem_cons_succ, List.setIfInBounds_toArray, List.set_cons_zero, List.set_cons_succ]
                        refine wpAnyH_take (i := 9) (v := ?_) rfl (by kernel_rfl) (by kernel_rfl) (by kernel_rfl) (fun _ _ _ h => h) (Or.inl ⟨by kernel_rfl, ?_⟩) hHeld ?_
                        rotate_left
                        · intro W hSw
                          clear hSw
                          go_simp <;> with_reducible rfl
                        simp only [Act.put, List.getElem_toArray, List.getElem_cons_zero, List.getElem_cons_succ, List.setIfInBounds_toArray, List.set_cons_zero, List.set_cons_succ]
                        refine wpAnyH_take (i := 10) (v := ?_) rfl (by kernel_rfl) (by kernel_rfl) (by kernel_rfl) (fun _ _ _ h => h) (Or.inl ⟨by kernel_rfl, ?_⟩) hHeld ?_
                        rotate_left
                        · intro W hSw
                          have hcl := (HUU.out _ hSw).1
                          clear hSw
                          go_simp <;> with_reducible rfl
                        simp only [Act.put, List.getElem_toArray, List.getElem_cons_zero, List.getElem_cons_succ, List.setIfInBounds_toArray, List.set_cons_zero, List.set_cons_succ]
                        refine wpAnyH_take (i := 11) (v := ?_) rfl (by kernel_rfl) (by kernel_rfl) (by kernel_rfl) (fun _ _ _ h => h) (Or.inl ⟨by kernel_rfl, ?_⟩) hHeld ?_
                        rotate_left
                        · intro W hSw
                          clear hSw
                          go_simp <;> with_reducible rfl
                        simp only [Act.put, List.getElem_toArray, List.getElem_cons_zero, List.getElem_cons_succ, List.setIfInBounds_toArray, List.set_cons_zero, List.set_cons_succ]
                        refine wpAnyH_take (i := 12) (v := ?_) rfl (by kernel_rfl) (by kernel_rfl) (by kernel_rfl) (fun _ _ _ h => h) (Or.inl ⟨by kernel_rfl, ?_⟩) hHeld ?_
                        rotate_left
                        · intro W hSw
                          clear hSw
                          go_simp <;> with_reducible rfl
                        simp only [Act.put, List.getElem_toArray, List.getElem_cons_zero, List.getElem_cons_succ, List.setIfInBounds_toArray, List.set_cons_zero, List.set_cons_succ]
                        refine wpAnyH_take (i := 13) (v := ?_) rfl (by kernel_rfl) (by kernel_rfl) (by kernel_rfl) (fun _ _ _ h => h) (Or.inl ⟨by kernel_rfl, ?_⟩) hHeld ?_
                        rotate_left
                        · intro W hSw
                          have hsl := HLU.out
                          clear hSw
                          go_simp <;> with_reducible rfl
                        simp only [Act.put, List.getElem_toArray, List.getElem_cons_zero, List.getElem_cons_succ, List.setIfInBounds_toArray, List.set_cons_zero, List.set_cons_succ]
                        refine wpAnyH_take (i := 14) (v := ?_) rfl (by kernel_rfl) (by kernel_rfl) (by kernel_rfl) (fun _ _ _ h => h) (Or.inl ⟨by kernel_rfl, ?_⟩) hHeld ?_
                        rotate_left
                        · intro W hSw
                          have hcv := (HUU.out _ hSw).2.2 s hs12
                          clear hSw
                          go_simp <;> with_reducible rfl
                        simp only [Act.put, List.getElem_toArray, List.getElem_cons_zero, List.getElem_cons_succ, List.setIfInBounds_toArray, List.set_cons_zero, List.set_cons_succ]
                        refine wpAnyH_take (i := 15) (v := ?_) rfl (by kernel_rfl) (by kernel_rfl) (by kernel_rfl) (fun _ _ _ h => h) (Or.inl ⟨by kernel_rfl, ?_⟩) hHeld ?_
                        rotate_left
                        · intro W hSw
                          clear hSw
                          go_simp <;> with_reducible rfl
                        simp only [Act.put, List.getElem_toArray, List.getElem_cons_zero, List.getElem_cons_succ, List.setIfInBounds_toArray, List.set_cons_zero, List.set_cons_succ]
                        refine wpAnyH_take (i := 16) (v := ?_) rfl (by kernel_rfl) (by kernel_rfl) (by kernel_rfl) (fun _ _ _ h => h) (Or.inl ⟨by kernel_rfl, ?_⟩) hHeld ?_
                        rotate_left
                        · intro W hSw
                          clear hSw
                          go_simp <;> with_reducible rfl
                        simp only [Act.put, List.getElem_toArray, List.getElem_cons_zero, List.getElem_cons_succ, List.setIfInBounds_toArray, List.set_cons_zero, List.set_cons_succ]
                        refine wpAnyH_take (i := 17) (v := ?_) rfl (by kernel_rfl) (by kernel_rfl) (by kernel_rfl) (fun _ _ _ h => h) (Or.inl ⟨by kernel_rfl, ?_⟩) hHeld ?_
                        rotate_left
                        · intro W hSw
                          clear hSw
                          go_simp <;> with_reducible rfl
                        simp only [Act.put, List.getElem_toArray, List.getElem_cons_zero, List.getElem_cons_succ, List.setIfInBounds_toArray, List.set_cons_zero, List.set_cons_succ]
                        refine wpAnyH_done (by kernel_rfl) ?_ _
                        have B4 := hide hHeld
                        clear hHeld
                        go_wp2
                        go_roundw
                        case rel => exact ⟨j + 1, _, rfl, by go_num, by omega, hide (by show (okB _ _ _ s j || _) = _; rw [HO.out, Bool.false_or]), B4⟩
                        case measure => simp [intOf]; omega
                      · have HO2 : Hid (okB (crashW ws keep) (dumpW []) (fun j => dumpW (ws.take (j + 1))) s (j + 1) = true) := hide (by show (okB _ _ _ s j || _) = _; rw [HO.out]; rfl)
                        clear hU hea HO HU1 HK1
                        go_wp2_with fail
                        refine wp_region_held_drew (S := fun W' => Below x9.heap.size x9 W') (by kernel_rfl) B3.out.drew (fun hHeld => ?_)
                        refine wpAnyH_take (i := 0) (v := ?_) rfl (by kernel_rfl) (by kernel_rfl) (by kernel_rfl) (fun _ _ _ h => h) (Or.inl ⟨by kernel_rfl, ?_⟩) hHeld ?_
                        rotate_left
                        · intro W hSw
                          clear hSw
                          go_simp <;> with_reducible rfl
                        simp only [Act.put, List.getElem_toArray, List.getElem_cons_zero, List.getElem_cons_succ, List.setIfInBounds_toArray, List.set_cons_zero, List.set_cons_succ]
                        refine wpAnyH_take (i := 1) (v := ?_) rfl (by kernel_rfl) (by kernel_rfl) (by kernel_rfl) (fun _ _ _ h => h) (Or.inl ⟨by kernel_rfl, ?_⟩) hHeld ?_
                        rotate_left
                        · intro W hSw
                          clear hSw
                          go_simp <;> with_reducible rfl
                        simp only [Act.put, List.getElem_toArray, List.getElem_cons_zero, List.getElem_cons_succ, List.setIfInBounds_toArray, List.set_cons_zero, List.set_cons_succ]
                        refine wpAnyH_take (i := 2) (v := undef) rfl (by kernel_rfl) (by kernel_rfl) (by kernel_rfl) (fun _ _ _ h => h) (Or.inr ⟨by kernel_rfl, rfl⟩) hHeld ?_
                        simp only [Act.put, List.getElem_toArray, List.getElem_cons_zero, List.getElem_cons_succ, List.setIfInBounds_toArray, List.set_cons_zero, List.set_cons_succ]
                        refine wpAnyH_take (i := 3) (v := undef) rfl (by kernel_rfl) (by kernel_rfl) (by kernel_rfl) (fun _ _ _ h => h) (Or.inr ⟨by kernel_rfl, rfl⟩) hHeld ?_
                        simp only [Act.put, List.getElem_toArray, List.getElem_cons_zero, List.getElem_cons_succ, List.setIfInBounds_toArray, List.set_cons_zero, List.set_cons_succ]
                        refine wpAnyH_take (i := 4) (v := undef) rfl (by kernel_rfl) (by kernel_rfl) (by kernel_rfl) (fun _ _ _ h => h) (Or.inr ⟨by kernel_rfl, rfl⟩) hHeld ?_
                        simp only [Act.put, List.getElem_toArray, List.getElem_cons_zero, List.getElem_cons_succ, List.setIfInBounds_toArray, List.set_cons_zero, List.set_cons_succ]
                        refine wpAnyH_take (i := 5) (v := undef) rfl (by kernel_rfl) (by kernel_rfl) (by kernel_rfl) (fun _ _ _ h => h) (Or.inr ⟨by kernel_rfl, rfl⟩) hHeld ?_
                        simp only [Act.put, List.getElem_toArray, List.getElem_cons_zero, List.getElem_cons_succ, List.setIfInBounds_toArray, List.set_cons_zero, List.set_cons_succ]
                        refine wpAnyH_take (i := 6) (v := undef) rfl (by kernel_rfl) (by kernel_rfl) (by kernel_rfl) (fun _ _ _ h => h) (Or.inr ⟨by kernel_rfl, rfl⟩) hHeld ?_
                        simp only [Act.put, List.getElem_toArray, List.getElem_cons_zero, List.getElem_cons_succ, List.setIfInBounds_toArray, List.set_cons_zero, List.set_cons_succ]
                        refine wpAnyH_take (i := 7) (v := undef) rfl (by kernel_rfl) (by kernel_rfl) (by kernel_rfl) (fun _ _ _ h => h) (Or.inr ⟨by kernel_rfl, rfl⟩) hHeld ?_
                        simp only [Act.put, List.getElem_toArray, List.getElem_cons_zero, List.getElem_cons_succ, List.setIfInBounds_toArray, List.set_cons_zero, List.set_cons_succ]
                        refine wpAnyH_take (i := 8) (v := undef) rfl (by kernel_rfl) (by kernel_rfl) (by kernel_rfl) (fun _ _ _ h => h) (Or.inr ⟨by kernel_rfl, rfl⟩) hHeld ?_
                        simp only [Act.put, List.getElem_toArray, List.getElem_cons_zero, List.getElem_cons_succ, List.setIfInBounds_toArray, List.set_cons_zero, List.set_cons_succ]
                        refine wpAnyH_take (i := 9) (v := undef) rfl (by kernel_rfl) (by kernel_rfl) (by kernel_rfl) (fun _ _ _ h => h) (Or.inr ⟨by kernel_rfl, rfl⟩) hHeld ?_
                        simp only [Act.put, List.getElem_toArray, List.getElem_cons_zero, List.getElem_cons_succ, List.setIfInBounds_toArray, List.set_cons_zero, List.set_cons_succ]
                        refine wpAnyH_take (i := 10) (v := undef) rfl (by kernel_rfl) (by kernel_rfl) (by kernel_rfl) (fun _ _ _ h => h) (Or.inr ⟨by kernel_rfl, rfl⟩) hHeld ?_
                        simp only [Act.put, List.getElem_toArray, List.getElem_cons_zero, List.getElem_cons_succ, List.setIfInBounds_toArray, List.set_cons_zero, List.set_cons_succ]
                        refine wpAnyH_take (i := 11) (v := undef) rfl (by kernel_rfl) (by kernel_rfl) (by kernel_rfl) (fun _ _ _ h => h) (Or.inr ⟨by kernel_rfl, rfl⟩) hHeld ?_
                        simp only [Act.put, List.getElem_toArray, List.getElem_cons_zero, List.getElem_cons_succ, List.setIfInBounds_toArray, List.set_cons_zero, List.set_cons_succ]
                        refine wpAnyH_take (i := 12) (v := undef) rfl (by kernel_rfl) (by kernel_rfl) (by kernel_rfl) (fun _ _ _ h => h) (Or.inr ⟨by kernel_rfl, rfl⟩) hHeld ?_
                        simp only [Act.put, List.getElem_toArray, List.getElem_cons_zero, List.getElem_cons_succ, List.setIfInBounds_toArray, List.set_cons_zero, List.set_cons_succ]
                        refine wpAnyH_take (i := 13) (v := undef) rfl (by kernel_rfl) (by kernel_rfl) (by kernel_rfl) (fun _ _ _ h => h) (Or.inr ⟨by kernel_rfl, rfl⟩) hHeld ?_
                        simp only [Act.put, List.getElem_toArray, List.getElem_cons_zero, List.getElem_cons_succ, List.setIfInBounds_toArray, List.set_cons_zero, List.set_cons_succ]
                        refine wpAnyH_take (i := 14) (v := undef) rfl (by kernel_rfl) (by kernel_rfl) (by kernel_rfl) (fun _ _ _ h => h) (Or.inr ⟨by kernel_rfl, rfl⟩) hHeld ?_
                        simp only [Act.put, List.getElem_toArray, List.getElem_cons_zero, List.getElem_cons_succ, List.setIfInBounds_toArray, List.set_cons_zero, List.set_cons_succ]
                        refine wpAnyH_take (i := 15) (v := undef) rfl (by kernel_rfl) (by kernel_rfl) (by kernel_rfl) (fun _ _ _ h => h) (Or.inr ⟨by kernel_rfl, rfl⟩) hHeld ?_
                        simp only [Act.put, List.getElem_toArray, List.getElem_cons_zero, List.getElem_cons_succ, List.setIfInBounds_toArray, List.set_cons_zero, List.set_cons_succ]
                        refine wpAnyH_take (i := 16) (v := .bool true) rfl (by kernel_rfl) (by kernel_rfl) (by kernel_rfl) (fun _ _ _ h => h) (Or.inl ⟨by kernel_rfl, fun _ _ => by go_simp⟩) hHeld ?_
                        simp only [Act.put, List.getElem_toArray, List.getElem_cons_zero, List.getElem_cons_succ, List.setIfInBounds_toArray, List.set_cons_zero, List.set_cons_succ]
                        refine wpAnyH_take (i := 17) (v := ?_) rfl (by kernel_rfl) (by kernel_rfl) (by kernel_rfl) (fun _ _ _ h => h) (Or.inl ⟨by kernel_rfl, ?_⟩) hHeld ?_
                        rotate_left
                        · intro W hSw
                          clear hSw
                          go_simp <;> with_reducible rfl
                        simp only [Act.put, List.getElem_toArray, List.getElem_cons_zero, List.getElem_cons_succ, List.setIfInBounds_toArray, List.set_cons_zero, List.set_cons_succ]
                        refine wpAnyH_done (by kernel_rfl) ?_ _
                        have B4 := hide hHeld
                        clear hHeld
                        go_wp2
                        go_roundw
                        case rel => exact ⟨j + 1, true, rfl, by go_num, by omega, HO2, B4⟩
                        case measure => simp [intOf]; omega
                    · have hjk2 : ¬ (j : Int) < 0 := by omega
                      obtain rfl : b2 = true := by
                        have hjj : j = 0 := by omega
                        rw [← HO.out, hjj]
                        exact HK1.out
                      clear HO HU1 HK1 HVN HLN
                      go_wp2
                      go_roundw
                      case rel => exact ⟨s + 1, by go_num, by omega, B3⟩
                      case measure => simp [intOf]; omega
                · have hs1 : ¬ (s : Int) < 12 := by omega
                  have HY := hide (HB9.out wr B.out)
                  clear HSN HSW HOK HSU HCN HB9
                  go_wp2_with fail
                  refine (HAL.out _).mono ?_
                  rintro e z1 ⟨rfl, bz⟩
                  have HZ2 := hide (bel_on HY.out bz)
                  clear HAL bz
                  go_wp2
                  go_ret
                  exact ⟨rfl, HZ2.out⟩
            · have hkm : km ≤ 19 := by omega
              obtain ⟨ga, gu, ou, cu, hea, hcu, hU⟩ := HSU.out km (by omega)
              have HLC : Hid (∀ W, Below x9.heap.size x9 W → W.cell? ⟨ga, km, none⟩ = some (.slice (some ⟨gu, ou, none⟩) 768 cu) ∧ (convert 34 9 (.slice (some ⟨gu, ou, none⟩) 768 cu)).run Try.prog W = .ok (.string ⟨(crashW ws keep).toArray⟩) W) := hide (fun W hb => by
                obtain ⟨h1, h2, _⟩ := hU W hb
                rw [HTK.out, ← HLA.out rfl] at h2
                exact ⟨h1, h2⟩)
              subst hea
              have hk0 : (0 : Int) < (km : Int) + 1 := by omega
              have hk3 : (km : Int) < (km : Int) + 1 := by omega
              have hw8 : wrap64 (km : Int) = (km : Int) := by unfold wrap64; omega
              have hw9 : IntKind.i64.wrap (km : Int) = (km : Int) := by rw [IntKind.wrap_i64]; omega
              clear HREG HLA hU
              go_wp2_with fail
              refine wp_region_held_drew (S := fun W' => Below x9.heap.size x9 W') (by kernel_rfl) (Below.refl _ x9).drew (fun hHeld => ?_)
              refine wpAnyH_take (i := 0) (v := ?_) rfl (by kernel_rfl) (by kernel_rfl) (by kernel_rfl) (fun _ _ _ h => h) (Or.inl ⟨by kernel_rfl, ?_⟩) hHeld ?_
              rotate_left
              · intro W hSw
                clear hSw
                go_simp <;> with_reducible rfl
              simp only [Act.put, List.getElem_toArray, List.getElem_cons_zero, List.getElem_cons_succ, List.setIfInBounds_toArray, List.set_cons_zero, List.set_cons_succ]
              refine wpAnyH_take (i := 1) (v := .int .i64 768) rfl (by kernel_rfl) (by kernel_rfl) (by kernel_rfl) (fun _ _ _ h => h) (Or.inl ⟨by kernel_rfl, fun _ _ => by go_simp⟩) hHeld ?_
              simp only [Act.put, List.getElem_toArray, List.getElem_cons_zero, List.getElem_cons_succ, List.setIfInBounds_toArray, List.set_cons_zero, List.set_cons_succ]
              refine wpAnyH_take (i := 2) (v := .bool false) rfl (by kernel_rfl) (by kernel_rfl) (by kernel_rfl) (fun _ _ _ h => h) (Or.inl ⟨by kernel_rfl, fun _ _ => by go_simp⟩) hHeld ?_
              simp only [Act.put, List.getElem_toArray, List.getElem_cons_zero, List.getElem_cons_succ, List.setIfInBounds_toArray, List.set_cons_zero, List.set_cons_succ]
              refine wpAnyH_take (i := 3) (v := .bool false) rfl (by kernel_rfl) (by kernel_rfl) (by kernel_rfl) (fun _ _ _ h => h) (Or.inl ⟨by kernel_rfl, fun _ _ => by go_simp⟩) hHeld ?_
              simp only [Act.put, List.getElem_toArray, List.getElem_cons_zero, List.getElem_cons_succ, List.setIfInBounds_toArray, List.set_cons_zero, List.set_cons_succ]
              refine wpAnyH_take (i := 4) (v := ?_) rfl (by kernel_rfl) (by kernel_rfl) (by kernel_rfl) (fun _ _ _ h => h) (Or.inl ⟨by kernel_rfl, ?_⟩) hHeld ?_
              rotate_left
              · intro W hSw
                clear hSw
                go_simp <;> with_reducible rfl
              simp only [Act.put, List.getElem_toArray, List.getElem_cons_zero, List.getElem_cons_succ, List.setIfInBounds_toArray, List.set_cons_zero, List.set_cons_succ]
              refine wpAnyH_take (i := 5) (v := ?_) rfl (by kernel_rfl) (by kernel_rfl) (by kernel_rfl) (fun _ _ _ h => h) (Or.inl ⟨by kernel_rfl, ?_⟩) hHeld ?_
              rotate_left
              · intro W hSw
                clear hSw
                go_simp <;> with_reducible rfl
              simp only [Act.put, List.getElem_toArray, List.getElem_cons_zero, List.getElem_cons_succ, List.setIfInBounds_toArray, List.set_cons_zero, List.set_cons_succ]
              refine wpAnyH_take (i := 6) (v := ?_) rfl (by kernel_rfl) (by kernel_rfl) (by kernel_rfl) (fun _ _ _ h => h) (Or.inl ⟨by kernel_rfl, ?_⟩) hHeld ?_
              rotate_left
              · intro W hSw
                clear hSw
                go_simp <;> with_reducible rfl
              simp only [Act.put, List.getElem_toArray, List.getElem_cons_zero, List.getElem_cons_succ, List.setIfInBounds_toArray, List.set_cons_zero, List.set_cons_succ]
              refine wpAnyH_take (i := 7) (v := ?_) rfl (by kernel_rfl) (by kernel_rfl) (by kernel_rfl) (fun _ _ _ h => h) (Or.inl ⟨by kernel_rfl, ?_⟩) hHeld ?_
              rotate_left
              · intro W hSw
                clear hSw
                go_simp <;> with_reducible rfl
              simp only [Act.put, List.getElem_toArray, List.getElem_cons_zero, List.getElem_cons_succ, List.setIfInBounds_toArray, List.set_cons_zero, List.set_cons_succ]
              refine wpAnyH_take (i := 8) (v := .bool true) rfl (by kernel_rfl) (by kernel_rfl) (by kernel_rfl) (fun _ _ _ h => h) (Or.inl ⟨by kernel_rfl, fun _ _ => by go_simp⟩) hHeld ?_
              simp only [Act.put, List.getElem_toArray, List.getElem_cons_zero, List.getElem_cons_succ, List.setIfInBounds_toArray, List.set_cons_zero, List.set_cons_succ]
              refine wpAnyH_take (i := 9) (v := .bool true) rfl (by kernel_rfl) (by kernel_rfl) (by kernel_rfl) (fun _ _ _ h => h) (Or.inl ⟨by kernel_rfl, fun _ _ => by go_simp⟩) hHeld ?_
              simp only [Act.put, List.getElem_toArray, List.getElem_cons_zero, List.getElem_cons_succ, List.setIfInBounds_toArray, List.set_cons_zero, List.set_cons_succ]
              refine wpAnyH_take (i := 10) (v := .bool true) rfl (by kernel_rfl) (by kernel_rfl) (by kernel_rfl) (fun _ _ _ h => h) (Or.inl ⟨by kernel_rfl, fun _ _ => by go_simp⟩) hHeld ?_
              simp only [Act.put, List.getElem_toArray, List.getElem_cons_zero, List.getElem_cons_succ, List.setIfInBounds_toArray, List.set_cons_zero, List.set_cons_succ]
              refine wpAnyH_take (i := 11) (v := ?_) rfl (by kernel_rfl) (by kernel_rfl) (by kernel_rfl) (fun _ _ _ h => h) (Or.inl ⟨by kernel_rfl, ?_⟩) hHeld ?_
              rotate_left
              · intro W hSw
                clear hSw
                go_simp <;> with_reducible rfl
              simp only [Act.put, List.getElem_toArray, List.getElem_cons_zero, List.getElem_cons_succ, List.setIfInBounds_toArray, List.set_cons_zero, List.set_cons_succ]
              refine wpAnyH_take (i := 12) (v := ?_) rfl (by kernel_rfl) (by kernel_rfl) (by kernel_rfl) (fun _ _ _ h => h) (Or.inl ⟨by kernel_rfl, ?_⟩) hHeld ?_
              rotate_left
              · intro W hSw
                have hcv := HCN.out _ hSw
                clear hSw
                go_simp <;> with_reducible rfl
              simp only [Act.put, List.getElem_toArray, List.getElem_cons_zero, List.getElem_cons_succ, List.setIfInBounds_toArray, List.set_cons_zero, List.set_cons_succ]
              refine wpAnyH_take (i := 13) (v := ?_) rfl (by kernel_rfl) (by kernel_rfl) (by kernel_rfl) (fun _ _ _ h => h) (Or.inl ⟨by kernel_rfl, ?_⟩) hHeld ?_
              rotate_left
              · intro W hSw
                clear hSw
                go_simp <;> with_reducible rfl
              simp only [Act.put, List.getElem_toArray, List.getElem_cons_zero, List.getElem_cons_succ, List.setIfInBounds_toArray, List.set_cons_zero, List.set_cons_succ]
              refine wpAnyH_take (i := 14) (v := ?_) rfl (by kernel_rfl) (by kernel_rfl) (by kernel_rfl) (fun _ _ _ h => h) (Or.inl ⟨by kernel_rfl, ?_⟩) hHeld ?_
              rotate_left
              · intro W hSw
                clear hSw
                go_simp <;> with_reducible rfl
              simp only [Act.put, List.getElem_toArray, List.getElem_cons_zero, List.getElem_cons_succ, List.setIfInBounds_toArray, List.set_cons_zero, List.set_cons_succ]
              refine wpAnyH_take (i := 15) (v := ?_) rfl (by kernel_rfl) (by kernel_rfl) (by kernel_rfl) (fun _ _ _ h => h) (Or.inl ⟨by kernel_rfl, ?_⟩) hHeld ?_
              rotate_left
              · intro W hSw
                clear hSw
                go_simp <;> with_reducible rfl
              simp only [Act.put, List.getElem_toArray, List.getElem_cons_zero, List.getElem_cons_succ, List.setIfInBounds_toArray, List.set_cons_zero, List.set_cons_succ]
              refine wpAnyH_take (i := 16) (v := .int .i64 (km : Int)) rfl (by kernel_rfl) (by kernel_rfl) (by kernel_rfl) (fun _ _ _ h => h) (Or.inl ⟨by kernel_rfl, fun _ _ => by go_simp⟩) hHeld ?_
              simp only [Act.put, List.getElem_toArray, List.getElem_cons_zero, List.getElem_cons_succ, List.setIfInBounds_toArray, List.set_cons_zero, List.set_cons_succ]
              refine wpAnyH_take (i := 17) (v := ?_) rfl (by kernel_rfl) (by kernel_rfl) (by kernel_rfl) (fun _ _ _ h => h) (Or.inl ⟨by kernel_rfl, ?_⟩) hHeld ?_
              rotate_left
              · intro W hSw
                clear hSw
                go_simp <;> with_reducible rfl
              simp only [Act.put, List.getElem_toArray, List.getElem_cons_zero, List.getElem_cons_succ, List.setIfInBounds_toArray, List.set_cons_zero, List.set_cons_succ]
              refine wpAnyH_take (i := 18) (v := ?_) rfl (by kernel_rfl) (by kernel_rfl) (by kernel_rfl) (fun _ _ _ h => h) (Or.inl ⟨by kernel_rfl, ?_⟩) hHeld ?_
              rotate_left
              · intro W hSw
                have hcl := (HLC.out _ hSw).1
                clear hSw
                go_simp <;> with_reducible rfl
              simp only [Act.put, List.getElem_toArray, List.getElem_cons_zero, List.getElem_cons_succ, List.setIfInBounds_toArray, List.set_cons_zero, List.set_cons_succ]
              refine wpAnyH_take (i := 19) (v := ?_) rfl (by kernel_rfl) (by kernel_rfl) (by kernel_rfl) (fun _ _ _ h => h) (Or.inl ⟨by kernel_rfl, ?_⟩) hHeld ?_
              rotate_left
              · intro W hSw
                have hcv := (HLC.out _ hSw).2
                clear hSw
                go_simp <;> with_reducible rfl
              simp only [Act.put, List.getElem_toArray, List.getElem_cons_zero, List.getElem_cons_succ, List.setIfInBounds_toArray, List.set_cons_zero, List.set_cons_succ]
              refine wpAnyH_take (i := 20) (v := .bool false) rfl (by kernel_rfl) (by kernel_rfl) (by kernel_rfl) (fun _ _ _ h => h) (Or.inl ⟨by kernel_rfl, fun _ _ => by go_simp⟩) hHeld ?_
              simp only [Act.put, List.getElem_toArray, List.getElem_cons_zero, List.getElem_cons_succ, List.setIfInBounds_toArray, List.set_cons_zero, List.set_cons_succ]
              refine wpAnyH_take (i := 21) (v := .bool false) rfl (by kernel_rfl) (by kernel_rfl) (by kernel_rfl) (fun _ _ _ h => h) (Or.inl ⟨by kernel_rfl, fun _ _ => by go_simp⟩) hHeld ?_
              simp only [Act.put, List.getElem_toArray, List.getElem_cons_zero, List.getElem_cons_succ, List.setIfInBounds_toArray, List.set_cons_zero, List.set_cons_succ]
              refine wpAnyH_take (i := 22) (v := .bool false) rfl (by kernel_rfl) (by kernel_rfl) (by kernel_rfl) (fun _ _ _ h => h) (Or.inl ⟨by kernel_rfl, fun _ _ => by go_simp⟩) hHeld ?_
              simp only [Act.put, List.getElem_toArray, List.getElem_cons_zero, List.getElem_cons_succ, List.setIfInBounds_toArray, List.set_cons_zero, List.set_cons_succ]
              refine wpAnyH_done (by kernel_rfl) ?_ _
              have HZ := hide hHeld
              clear hHeld
              go_wp2
              try clear hwk
              try clear hlt
              try clear hq3
              try clear hq
              try clear hi2
              try clear hlt2
              try clear hlt3
              try clear hik
              try clear hFl
              try clear hL0
              try clear hkl9
              go_loopw [15] (fun vi wr => ∃ s : Nat, vi = .int .i64 (s : Int) ∧ s ≤ 12 ∧ Hid (Below x9.heap.size x9 wr)) (fun vi _ => 12 - (intOf vi).toNat)
              case atStart => exact ⟨0, rfl, Nat.zero_le _, HZ⟩
              case round =>
                clear HZ
                obtain ⟨s, rfl, hs, B⟩ := hrel
                by_cases hs12 : s < 12
                · have hs1 : (s : Int) < 12 := by omega
                  have hm1 : wrap64 ((s : Int) * 64) = (s : Int) * 64 := by unfold wrap64; omega
                  have hm2 : wrap64 ((s : Int) + 1) = (s : Int) + 1 := by unfold wrap64; omega
                  have hm3 : wrap64 (((s : Int) + 1) * 64) = ((s : Int) + 1) * 64 := by unfold wrap64; omega
                  have HLN := hide (sec_slice gn on cn s hs12 hcn)
                  have HLW := hide (sec_slice gw ow cw s hs12 hcw)
                  have HVN := hide (HSN.out s hs12)
                  have HVW := hide (HSW.out s hs12)
                  have HK1 := hide (HOK.out s hs12)
                  have HU1 := hide (fun j (hj : j < (km + 1)) => HSU.out j hj)
                  clear HSN HSW HOK HSU HAL HCN
                  go_wp2_with fail
                  refine wp_region_held_drew (S := fun W' => Below x9.heap.size x9 W') (by kernel_rfl) B.out.drew (fun hHeld => ?_)
                  refine wpAnyH_take (i := 0) (v := ?_) rfl (by kernel_rfl) (by kernel_rfl) (by kernel_rfl) (fun _ _ _ h => h) (Or.inl ⟨by kernel_rfl, ?_⟩) hHeld ?_
                  rotate_left
                  · intro W hSw
                    clear hSw
                    go_simp <;> with_reducible rfl
                  simp only [Act.put, List.getElem_toArray, List.getElem_cons_zero, List.getElem_cons_succ, List.setIfInBounds_toArray, List.set_cons_zero, List.set_cons_succ]
                  refine wpAnyH_take (i := 1) (v := ?_) rfl (by kernel_rfl) (by kernel_rfl) (by kernel_rfl) (fun _ _ _ h => h) (Or.inl ⟨by kernel_rfl, ?_⟩) hHeld ?_
                  rotate_left
                  · intro W hSw
                    clear hSw
                    go_simp <;> with_reducible rfl
                  simp only [Act.put, List.getElem_toArray, List.getElem_cons_zero, List.getElem_cons_succ, List.setIfInBounds_toArray, List.set_cons_zero, List.set_cons_succ]
                  refine wpAnyH_take (i := 2) (v := ?_) rfl (by kernel_rfl) (by kernel_rfl) (by kernel_rfl) (fun _ _ _ h => h) (Or.inl ⟨by kernel_rfl, ?_⟩) hHeld ?_
                  rotate_left
                  · intro W hSw
                    clear hSw
                    go_simp <;> with_reducible rfl
                  simp only [Act.put, List.getElem_toArray, List.getElem_cons_zero, List.getElem_cons_succ, List.setIfInBounds_toArray, List.set_cons_zero, List.set_cons_succ]
                  refine wpAnyH_take (i := 3) (v := ?_) rfl (by kernel_rfl) (by kernel_rfl) (by kernel_rfl) (fun _ _ _ h => h) (Or.inl ⟨by kernel_rfl, ?_⟩) hHeld ?_
                  rotate_left
                  · intro W hSw
                    have hsl := HLN.out
                    clear hSw
                    go_simp <;> with_reducible rfl
                  simp only [Act.put, List.getElem_toArray, List.getElem_cons_zero, List.getElem_cons_succ, List.setIfInBounds_toArray, List.set_cons_zero, List.set_cons_succ]
                  refine wpAnyH_take (i := 4) (v := ?_) rfl (by kernel_rfl) (by kernel_rfl) (by kernel_rfl) (fun _ _ _ h => h) (Or.inl ⟨by kernel_rfl, ?_⟩) hHeld ?_
                  rotate_left
                  · intro W hSw
                    have hcv := HVN.out _ hSw
                    clear hSw
                    go_simp <;> with_reducible rfl
                  simp only [Act.put, List.getElem_toArray, List.getElem_cons_zero, List.getElem_cons_succ, List.setIfInBounds_toArray, List.set_cons_zero, List.set_cons_succ]
                  refine wpAnyH_take (i := 5) (v := ?_) rfl (by kernel_rfl) (by kernel_rfl) (by kernel_rfl) (fun _ _ _ h => h) (Or.inl ⟨by kernel_rfl, ?_⟩) hHeld ?_
                  rotate_left
                  · intro W hSw
                    clear hSw
                    go_simp <;> with_reducible rfl
                  simp only [Act.put, List.getElem_toArray, List.getElem_cons_zero, List.getElem_cons_succ, List.setIfInBounds_toArray, List.set_cons_zero, List.set_cons_succ]
                  refine wpAnyH_take (i := 6) (v := ?_) rfl (by kernel_rfl) (by kernel_rfl) (by kernel_rfl) (fun _ _ _ h => h) (Or.inl ⟨by kernel_rfl, ?_⟩) hHeld ?_
                  rotate_left
                  · intro W hSw
                    clear hSw
                    go_simp <;> with_reducible rfl
                  simp only [Act.put, List.getElem_toArray, List.getElem_cons_zero, List.getElem_cons_succ, List.setIfInBounds_toArray, List.set_cons_zero, List.set_cons_succ]
                  refine wpAnyH_take (i := 7) (v := ?_) rfl (by kernel_rfl) (by kernel_rfl) (by kernel_rfl) (fun _ _ _ h => h) (Or.inl ⟨by kernel_rfl, ?_⟩) hHeld ?_
                  rotate_left
                  · intro W hSw
                    clear hSw
                    go_simp <;> with_reducible rfl
                  simp only [Act.put, List.getElem_toArray, List.getElem_cons_zero, List.getElem_cons_succ, List.setIfInBounds_toArray, List.set_cons_zero, List.set_cons_succ]
                  refine wpAnyH_take (i := 8) (v := ?_) rfl (by kernel_rfl) (by kernel_rfl) (by kernel_rfl) (fun _ _ _ h => h) (Or.inl ⟨by kernel_rfl, ?_⟩) hHeld ?_
                  rotate_left
                  · intro W hSw
                    have hsl := HLW.out
                    clear hSw
                    go_simp <;> with_reducible rfl
                  simp only [Act.put, List.getElem_toArray, List.getElem_cons_zero, List.getElem_cons_succ, List.setIfInBounds_toArray, List.set_cons_zero, List.set_cons_succ]
                  refine wpAnyH_take (i := 9) (v := ?_) rfl (by kernel_rfl) (by kernel_rfl) (by kernel_rfl) (fun _ _ _ h => h) (Or.inl ⟨by kernel_rfl, ?_⟩) hHeld ?_
                  rotate_left
                  · intro W hSw
                    have hcv := HVW.out _ hSw
                    clear hSw
                    go_simp <;> with_reducible rfl
                  simp only [Act.put, List.getElem_toArray, List.getElem_cons_zero, List.getElem_cons_succ, List.setIfInBounds_toArray, List.set_cons_zero, List.set_cons_succ]
                  refine wpAnyH_take (i := 10) (v := ?_) rfl (by kernel_rfl) (by kernel_rfl) (by kernel_rfl) (fun _ _ _ h => h) (Or.inl ⟨by kernel_rfl, ?_⟩) hHeld ?_
                  rotate_left
                  · intro W hSw
                    clear hSw
                    go_simp <;> with_reducible rfl
                  simp only [Act.put, List.getElem_toArray, List.getElem_cons_zero, List.getElem_cons_succ, List.setIfInBounds_toArray, List.set_cons_zero, List.set_cons_succ]
                  refine wpAnyH_take (i := 11) (v := ?_) rfl (by kernel_rfl) (by kernel_rfl) (by kernel_rfl) (fun _ _ _ h => h) (Or.inl ⟨by kernel_rfl, ?_⟩) hHeld ?_
                  rotate_left
                  · intro W hSw
                    clear hSw
                    go_simp <;> with_reducible rfl
                  simp only [Act.put, List.getElem_toArray, List.getElem_cons_zero, List.getElem_cons_succ, List.setIfInBounds_toArray, List.set_cons_zero, List.set_cons_succ]
                  refine wpAnyH_done (by kernel_rfl) ?_ _
                  have B2 := hide hHeld
                  clear hHeld HVW HLW
                  go_wp2
                  generalize wr = wz at *
                  go_loopw [18, 19] (fun vb vi wr => ∃ (j : Nat) (b2 : Bool), vb = .bool b2 ∧ vi = .int .i64 (j : Int) ∧ j ≤ (km + 1) ∧ Hid (okB (crashW ws keep) (dumpW []) (fun j => dumpW (ws.take (j + 1))) s j = b2) ∧ Hid (Below x9.heap.size x9 wr)) (fun _ vi _ => (km + 1) - (intOf vi).toNat)
                  case atStart => exact ⟨0, _, rfl, rfl, Nat.zero_le _, hide (by first | rfl | simp [okB]), B2⟩
                  case round =>
                    clear B2
                    obtain ⟨j, b2, rfl, rfl, hj, HO, B3⟩ := hrel
                    by_cases hjk : j < (km + 1)
                    · have hjk2 : (j : Int) < ((km : Int) + 1) := by omega
                      obtain ⟨ga, gu, ou, cu, hea, hcu, hU⟩ := HU1.out j hjk
                      cases b2
                      · have HLU := hide (sec_slice gu ou cu s hs12 hcu)
                        have HUU := hide hU
                        try injection hea with hea
                        try injection hea with hea1 hea2
                        try subst hea1
                        try subst hea
                        clear hU HU1 HK1
                        go_wp2_with fail
                        refine wp_region_held_drew (S := fun W' => Below x9.heap.size x9 W') (by kernel_rfl) B3.out.drew (fun hHeld => ?_)
                        refine wpAnyH_take (i := 0) (v := ?_) rfl (by kernel_rfl) (by kernel_rfl) (by kernel_rfl) (fun _ _ _ h => h) (Or.inl ⟨by kernel_rfl, ?_⟩) hHeld ?_
                        rotate_left
                        · intro W hSw
                          clear hSw
                          go_simp <;> with_reducible rfl
                        simp only [Act.put, List.getElem_toArray, List.getElem_cons_zero, List.getElem_cons_succ, List.setIfInBounds_toArray, List.set_cons_zero, List.set_cons_succ]
                        refine wpAnyH_take (i := 1) (v := ?_) rfl (by kernel_rfl) (by kernel_rfl) (by kernel_rfl) (fun _ _ _ h => h) (Or.inl ⟨by kernel_rfl, ?_⟩) hHeld ?_
                        rotate_left
                        · intro W hSw
                          clear hSw
                          go_simp <;> with_reducible rfl
                        simp only [Act.put, List.getElem_toArray, List.getElem_cons_zero, List.getElem_cons_succ, List.setIfInBounds_toArray, List.set_cons_zero, List.set_cons_succ]
                        refine wpAnyH_take (i := 2) (v := ?_) rfl (by kernel_rfl) (by kernel_rfl) (by kernel_rfl) (fun _ _ _ h => h) (Or.inl ⟨by kernel_rfl, ?_⟩) hHeld ?_
                        rotate_left
                        · intro W hSw
                          clear hSw
                          go_simp <;> with_reducible rfl
                        simp only [Act.put, List.getElem_toArray, List.getElem_cons_zero, List.getElem_cons_succ, List.setIfInBounds_toArray, List.set_cons_zero, List.set_cons_succ]
                        refine wpAnyH_take (i := 3) (v := ?_) rfl (by kernel_rfl) (by kernel_rfl) (by kernel_rfl) (fun _ _ _ h => h) (Or.inl ⟨by kernel_rfl, ?_⟩) hHeld ?_
                        rotate_left
                        · intro W hSw
                          clear hSw
                          go_simp <;> with_reducible rfl
                        simp only [Act.put, List.getElem_toArray, List.getElem_cons_zero, List.getElem_cons_succ, List.setIfInBounds_toArray, List.set_cons_zero, List.set_cons_succ]
                        refine wpAnyH_take (i := 4) (v := ?_) rfl (by kernel_rfl) (by kernel_rfl) (by kernel_rfl) (fun _ _ _ h => h) (Or.inl ⟨by kernel_rfl, ?_⟩) hHeld ?_
                        rotate_left
                        · intro W hSw
                          clear hSw
                          go_simp <;> with_reducible rfl
                        simp only [Act.put, List.getElem_toArray, List.getElem_cons_zero, List.getElem_cons_succ, List.setIfInBounds_toArray, List.set_cons_zero, List.set_cons_succ]
                        refine wpAnyH_take (i := 5) (v := ?_) rfl (by kernel_rfl) (by kernel_rfl) (by kernel_rfl) (fun _ _ _ h => h) (Or.inl ⟨by kernel_rfl, ?_⟩) hHeld ?_
                        rotate_left
                        · intro W hSw
                          have hsl := HLN.out
                          clear hSw
                          go_simp <;> with_reducible rfl
                        simp only [Act.put, List.getElem_toArray, List.getElem_cons_zero, List.getElem_cons_succ, List.setIfInBounds_toArray, List.set_cons_zero, List.set_cons_succ]
                        refine wpAnyH_take (i := 6) (v := ?_) rfl (by kernel_rfl) (by kernel_rfl) (by kernel_rfl) (fun _ _ _ h => h) (Or.inl ⟨by kernel_rfl, ?_⟩) hHeld ?_
                        rotate_left
                        · intro W hSw
                          have hcv := HVN.out _ hSw
                          clear hSw
                          go_simp <;> with_reducible rfl
                        simp only [Act.put, List.getElem_toArray, List.getElem_cons_zero, List.getElem_cons_succ, List.setIfInBounds_toArray, List.set_cons_zero, List.set_cons_succ]
                        refine wpAnyH_take (i := 7) (v := ?_) rfl (by kernel_rfl) (by kernel_rfl) (by kernel_rfl) (fun _ _ _ h => h) (Or.inl ⟨by kernel_rfl, ?_⟩) hHeld ?_
                        rotate_left
                        · intro W hSw
                          clear hSw
                          go_simp <;> with_reducible rfl
                        simp only [Act.put, List.getElem_toArray, List.getElem_cons_zero, List.getElem_cons_succ, List.setIfInBounds_toArray, List.set_cons_zero, List.set_cons_succ]
                        refine wpAnyH_take (i := 8) (v := ?_) rfl (by kernel_rfl) (by kernel_rfl) (by kernel_rfl) (fun _ _ _ h => h) (Or.inl ⟨by kernel_rfl, ?_⟩) hHeld ?_
                        rotate_left
                        · intro W hSw
                          clear hSw
                          go_simp <;> with_reducible rfl
                        simp only [Act.put, List.getElem_toArray, List.getElem_cons_zero, List.getElem_cons_succ, List.setIfInBounds_toArray, List.set_cons_zero, List.set_cons_succ]
                        refine wpAnyH_take (i := 9) (v := ?_) rfl (by kernel_rfl) (by kernel_rfl) (by kernel_rfl) (fun _ _ _ h => h) (Or.inl ⟨by kernel_rfl, ?_⟩) hHeld ?_
                        rotate_left
                        · intro W hSw
                          clear hSw
                          go_simp <;> with_reducible rfl
                        simp only [Act.put, List.getElem_toArray, List.getElem_cons_zero, List.getElem_cons_succ, List.setIfInBounds_toArray, List.set_cons_zero, List.set_cons_succ]
                        refine wpAnyH_take (i := 10) (v := ?_) rfl (by kernel_rfl) (by kernel_rfl) (by kernel_rfl) (fun _ _ _ h => h) (Or.inl ⟨by kernel_rfl, ?_⟩) hHeld ?_
                        rotate_left
                        · intro W hSw
                          have hcl := (HUU.out _ hSw).1
                          clear hSw
                          go_simp <;> with_reducible rfl
                        simp only [Act.put, List.getElem_toArray, List.getElem_cons_zero, List.getElem_cons_succ, List.setIfInBounds_toArray, List.set_cons_zero, List.set_cons_succ]
                        refine wpAnyH_take (i := 11) (v := ?_) rfl (by kernel_rfl) (by kernel_rfl) (by kernel_rfl) (fun _ _ _ h => h) (Or.inl ⟨by kernel_rfl, ?_⟩) hHeld ?_
                        rotate_left
                        · intro W hSw
                          clear hSw
                          go_simp <;> with_reducible rfl
                        simp only [Act.put, List.getElem_toArray, List.getElem_cons_zero, List.getElem_cons_succ, List.setIfInBounds_toArray, List.set_cons_zero, List.set_cons_succ]
                        refine wpAnyH_take (i := 12) (v := ?_) rfl (by kernel_rfl) (by kernel_rfl) (by kernel_rfl) (fun _ _ _ h => h) (Or.inl ⟨by kernel_rfl, ?_⟩) hHeld ?_
                        rotate_left
                        · intro W hSw
                          clear hSw
                          go_simp <;> with_reducible rfl
                        simp only [Act.put, List.getElem_toArray, List.getElem_cons_zero, List.getElem_cons_succ, List.setIfInBounds_toArray, List.set_cons_zero, List.set_cons_succ]
                        refine wpAnyH_take (i := 13) (v := ?_) rfl (by kernel_rfl) (by kernel_rfl) (by kernel_rfl) (fun _ _ _ h => h) (Or.inl ⟨by kernel_rfl, ?_⟩) hHeld ?_
                        rotate_left
                        · intro W hSw
                          have hsl := HLU.out
                          clear hSw
                          go_simp <;> with_reducible rfl
                        simp only [Act.put, List.getElem_toArray, List.getElem_cons_zero, List.getElem_cons_succ, List.setIfInBounds_toArray, List.set_cons_zero, List.set_cons_succ]
                        refine wpAnyH_take (i := 14) (v := ?_) rfl (by kernel_rfl) (by kernel_rfl) (by kernel_rfl) (fun _ _ _ h => h) (Or.inl ⟨by kernel_rfl, ?_⟩) hHeld ?_
                        rotate_left
                        · intro W hSw
                          have hcv := (HUU.out _ hSw).2.2 s hs12
                          clear hSw
                          go_simp <;> with_reducible rfl
                        simp only [Act.put, List.getElem_toArray, List.getElem_cons_zero, List.getElem_cons_succ, List.setIfInBounds_toArray, List.set_cons_zero, List.set_cons_succ]
                        refine wpAnyH_take (i := 15) (v := ?_) rfl (by kernel_rfl) (by kernel_rfl) (by kernel_rfl) (fun _ _ _ h => h) (Or.inl ⟨by kernel_rfl, ?_⟩) hHeld ?_
                        rotate_left
                        · intro W hSw
                          clear hSw
                          go_simp <;> with_reducible rfl
                        simp only [Act.put, List.getElem_toArray, List.getElem_cons_zero, List.getElem_cons_succ, List.setIfInBounds_toArray, List.set_cons_zero, List.set_cons_succ]
                        refine wpAnyH_take (i := 16) (v := ?_) rfl (by kernel_rfl) (by kernel_rfl) (by kernel_rfl) (fun _ _ _ h => h) (Or.inl ⟨by kernel_rfl, ?_⟩) hHeld ?_
                        rotate_left
                        · intro W hSw
                          clear hSw
                          go_simp <;> with_reducible rfl
                        simp only [Act.put, List.getElem_toArray, List.getElem_cons_zero, List.getElem_cons_succ, List.setIfInBounds_toArray, List.set_cons_zero, List.set_cons_succ]
                        refine wpAnyH_take (i := 17) (v := ?_) rfl (by kernel_rfl) (by kernel_rfl) (by kernel_rfl) (fun _ _ _ h => h) (Or.inl ⟨by kernel_rfl, ?_⟩) hHeld ?_
                        rotate_left
                        · intro W hSw
                          clear hSw
                          go_simp <;> with_reducible rfl
                        simp only [Act.put, List.getElem_toArray, List.getElem_cons_zero, List.getElem_cons_succ, List.setIfInBounds_toArray, List.set_cons_zero, List.set_cons_succ]
                        refine wpAnyH_done (by kernel_rfl) ?_ _
                        have B4 := hide hHeld
                        clear hHeld
                        go_wp2
                        go_roundw
                        case rel => exact ⟨j + 1, _, rfl, by go_num, by omega, hide (by show (okB _ _ _ s j || _) = _; rw [HO.out, Bool.false_or]), B4⟩
                        case measure => simp [intOf]; omega
                      · have HO2 : Hid (okB (crashW ws keep) (dumpW []) (fun j => dumpW (ws.take (j + 1))) s (j + 1) = true) := hide (by show (okB _ _ _ s j || _) = _; rw [HO.out]; rfl)
                        clear hU hea HO HU1 HK1
                        go_wp2_with fail
                        refine wp_region_held_drew (S := fun W' => Below x9.heap.size x9 W') (by kernel_rfl) B3.out.drew (fun hHeld => ?_)
                        refine wpAnyH_take (i := 0) (v := ?_) rfl (by kernel_rfl) (by kernel_rfl) (by kernel_rfl) (fun _ _ _ h => h) (Or.inl ⟨by kernel_rfl, ?_⟩) hHeld ?_
                        rotate_left
                        · intro W hSw
                          clear hSw
                          go_simp <;> with_reducible rfl
                        simp only [Act.put, List.getElem_toArray, List.getElem_cons_zero, List.getElem_cons_succ, List.setIfInBounds_toArray, List.set_cons_zero, List.set_cons_succ]
                        refine wpAnyH_take (i := 1) (v := ?_) rfl (by kernel_rfl) (by kernel_rfl) (by kernel_rfl) (fun _ _ _ h => h) (Or.inl ⟨by kernel_rfl, ?_⟩) hHeld ?_
                        rotate_left
                        · intro W hSw
                          clear hSw
                          go_simp <;> with_reducible rfl
                        simp only [Act.put, List.getElem_toArray, List.getElem_cons_zero, List.getElem_cons_succ, List.setIfInBounds_toArray, List.set_cons_zero, List.set_cons_succ]
                        refine wpAnyH_take (i := 2) (v := undef) rfl (by kernel_rfl) (by kernel_rfl) (by kernel_rfl) (fun _ _ _ h => h) (Or.inr ⟨by kernel_rfl, rfl⟩) hHeld ?_
                        simp only [Act.put, List.getElem_toArray, List.getElem_cons_zero, List.getElem_cons_succ, List.setIfInBounds_toArray, List.set_cons_zero, List.set_cons_succ]
                        refine wpAnyH_take (i := 3) (v := undef) rfl (by kernel_rfl) (by kernel_rfl) (by kernel_rfl) (fun _ _ _ h => h) (Or.inr ⟨by kernel_rfl, rfl⟩) hHeld ?_
                        simp only [Act.put, List.getElem_toArray, List.getElem_cons_zero, List.getElem_cons_succ, List.setIfInBounds_toArray, List.set_cons_zero, List.set_cons_succ]
                        refine wpAnyH_take (i := 4) (v := undef) rfl (by kernel_rfl) (by kernel_rfl) (by kernel_rfl) (fun _ _ _ h => h) (Or.inr ⟨by kernel_rfl, rfl⟩) hHeld ?_
                        simp only [Act.put, List.getElem_toArray, List.getElem_cons_zero, List.getElem_cons_succ, List.setIfInBounds_toArray, List.set_cons_zero, List.set_cons_succ]
                        refine wpAnyH_take (i := 5) (v := undef) rfl (by kernel_rfl) (by kernel_rfl) (by kernel_rfl) (fun _ _ _ h => h) (Or.inr ⟨by kernel_rfl, rfl⟩) hHeld ?_
                        simp only [Act.put, List.getElem_toArray, List.getElem_cons_zero, List.getElem_cons_succ, List.setIfInBounds_toArray, List.set_cons_zero, List.set_cons_succ]
                        refine wpAnyH_take (i := 6) (v := undef) rfl (by kernel_rfl) (by kernel_rfl) (by kernel_rfl) (fun _ _ _ h => h) (Or.inr ⟨by kernel_rfl, rfl⟩) hHeld ?_
                        simp only [Act.put, List.getElem_toArray, List.getElem_cons_zero, List.getElem_cons_succ, List.setIfInBounds_toArray, List.set_cons_zero, List.set_cons_succ]
                        refine wpAnyH_take (i := 7) (v := undef) rfl (by kernel_rfl) (by kernel_rfl) (by kernel_rfl) (fun _ _ _ h => h) (Or.inr ⟨by kernel_rfl, rfl⟩) hHeld ?_
                        simp only [Act.put, List.getElem_toArray, List.getElem_cons_zero, List.getElem_cons_succ, List.setIfInBounds_toArray, List.set_cons_zero, List.set_cons_succ]
                        refine wpAnyH_take (i := 8) (v := undef) rfl (by kernel_rfl) (by kernel_rfl) (by kernel_rfl) (fun _ _ _ h => h) (Or.inr ⟨by kernel_rfl, rfl⟩) hHeld ?_
                        simp only [Act.put, List.getElem_toArray, List.getElem_cons_zero, List.getElem_cons_succ, List.setIfInBounds_toArray, List.set_cons_zero, List.set_cons_succ]
                        refine wpAnyH_take (i := 9) (v := undef) rfl (by kernel_rfl) (by kernel_rfl) (by kernel_rfl) (fun _ _ _ h => h) (Or.inr ⟨by kernel_rfl, rfl⟩) hHeld ?_
                        simp only [Act.put, List.getElem_toArray, List.getElem_cons_zero, List.getElem_cons_succ, List.setIfInBounds_toArray, List.set_cons_zero, List.set_cons_succ]
                        refine wpAnyH_take (i := 10) (v := undef) rfl (by kernel_rfl) (by kernel_rfl) (by kernel_rfl) (fun _ _ _ h => h) (Or.inr ⟨by kernel_rfl, rfl⟩) hHeld ?_
                        simp only [Act.put, List.getElem_toArray, List.getElem_cons_zero, List.getElem_cons_succ, List.setIfInBounds_toArray, List.set_cons_zero, List.set_cons_succ]
                        refine wpAnyH_take (i := 11) (v := undef) rfl (by kernel_rfl) (by kernel_rfl) (by kernel_rfl) (fun _ _ _ h => h) (Or.inr ⟨by kernel_rfl, rfl⟩) hHeld ?_
                        simp only [Act.put, List.getElem_toArray, List.getElem_cons_zero, List.getElem_cons_succ, List.setIfInBounds_toArray, List.set_cons_zero, List.set_cons_succ]
                        refine wpAnyH_take (i := 12) (v := undef) rfl (by kernel_rfl) (by kernel_rfl) (by kernel_rfl) (fun _ _ _ h => h) (Or.inr ⟨by kernel_rfl, rfl⟩) hHeld ?_
                        simp only [Act.put, List.getElem_toArray, List.getElem_cons_zero, List.getElem_cons_succ, List.setIfInBounds_toArray, List.set_cons_zero, List.set_cons_succ]
                        refine wpAnyH_take (i := 13) (v := undef) rfl (by kernel_rfl) (by kernel_rfl) (by kernel_rfl) (fun _ _ _ h => h) (Or.inr ⟨by kernel_rfl, rfl⟩) hHeld ?_
                        simp only [Act.put, List.getElem_toArray, List.getElem_cons_zero, List.getElem_cons_succ, List.setIfInBounds_toArray, List.set_cons_zero, List.set_cons_succ]
                        refine wpAnyH_take (i := 14) (v := undef) rfl (by kernel_rfl) (by kernel_rfl) (by kernel_rfl) (fun _ _ _ h => h) (Or.inr ⟨by kernel_rfl, rfl⟩) hHeld ?_
                        simp only [Act.put, List.getElem_toArray, List.getElem_cons_zero, List.getElem_cons_succ, List.setIfInBounds_toArray, List.set_cons_zero, List.set_cons_succ]
                        refine wpAnyH_take (i := 15) (v := undef) rfl (by kernel_rfl) (by kernel_rfl) (by kernel_rfl) (fun _ _ _ h => h) (Or.inr ⟨by kernel_rfl, rfl⟩) hHeld ?_
                        simp only [Act.put, List.getElem_toArray, List.getElem_cons_zero, List.getElem_cons_succ, List.setIfInBounds_toArray, List.set_cons_zero, List.set_cons_succ]
                        refine wpAnyH_take (i := 16) (v := .bool true) rfl (by kernel_rfl) (by kernel_rfl) (by kernel_rfl) (fun _ _ _ h => h) (Or.inl ⟨by kernel_rfl, fun _ _ => by go_simp⟩) hHeld ?_
                        simp only [Act.put, List.getElem_toArray, List.getElem_cons_zero, List.getElem_cons_succ, List.setIfInBounds_toArray, List.set_cons_zero, List.set_cons_succ]
                        refine wpAnyH_take (i := 17) (v := ?_) rfl (by kernel_rfl) (by kernel_rfl) (by kernel_rfl) (fun _ _ _ h => h) (Or.inl ⟨by kernel_rfl, ?_⟩) hHeld ?_
                        rotate_left
                        · intro W hSw
                          clear hSw
                          go_simp <;> with_reducible rfl
                        simp only [Act.put, List.getElem_toArray, List.getElem_cons_zero, List.getElem_cons_succ, List.setIfInBounds_toArray, List.set_cons_zero, List.set_cons_succ]
                        refine wpAnyH_done (by kernel_rfl) ?_ _
                        have B4 := hide hHeld
                        clear hHeld
                        go_wp2
                        go_roundw
                        case rel => exact ⟨j + 1, true, rfl, by go_num, by omega, HO2, B4⟩
                        case measure => simp [intOf]; omega
                    · have hjk2 : ¬ (j : Int) < ((km : Int) + 1) := by omega
                      obtain rfl : b2 = true := by
                        have hjj : j = (km + 1) := by omega
                        rw [← HO.out, hjj]
                        exact HK1.out
                      clear HO HU1 HK1 HVN HLN
                      go_wp2
                      go_roundw
                      case rel => exact ⟨s + 1, by go_num, by omega, B3⟩
                      case measure => simp [intOf]; omega
                · have hs1 : ¬ (s : Int) < 12 := by omega
                  have HY := hide (HB9.out wr B.out)
                  clear HSN HSW HOK HSU HCN HB9
                  go_wp2_with fail
                  refine (HAL.out _).mono ?_
                  rintro e z1 ⟨rfl, bz⟩
                  have HZ2 := hide (bel_on HY.out bz)
                  clear HAL bz
                  go_wp2
                  go_ret
                  exact ⟨rfl, HZ2.out⟩
end Go.Proofs.Yteacldkfdhhphaa
