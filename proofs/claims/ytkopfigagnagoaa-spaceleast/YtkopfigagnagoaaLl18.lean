/- The walk of SpaceLeast. -/
import Derived.Test.YtkopfigagnagoaaLk18
set_option linter.unusedVariables false
set_option linter.unusedSimpArgs false
set_option maxRecDepth 40000
namespace Go.Proofs.Ytkopfigagnagoaa
open Go.RowKit

theorem PS.cell {w x : World} {v : Value} {l m : SL} {g n c : Nat} (h : PS w v l (.slice (some ⟨g, 0, none⟩) n c) m x) (j : Nat) (t : Bool) (hj : m[j]? = some t) : x.cell? ⟨g, j, none⟩ = some (.bool t) := by
  obtain ⟨b, o, e, hc⟩ := h.f.at_ j t hj
  injection e with e
  injection e with e1 e2
  subst e1 e2
  rw [Nat.zero_add] at hc
  exact hc
theorem LeastR.all {l : SL} {a : Nat} (h : LeastR l a) (j : Nat) (hj : (j : Int) ≤ (a : Int)) : (l.set a true)[j]? = some true := by
  rcases Nat.lt_or_ge j a with h1 | h1
  · rw [List.getElem?_set_ne (by omega)]
    exact h.up j h1
  · have e : j = a := by omega
    rw [e, List.getElem?_set_self h.lt]
set_option maxHeartbeats 8000000 in
theorem spaceLeast_walk (n : Int) (hn : (Lit.int .i64 n).wf = true) (sv : Value) (ss : List AV) (w : World) (hS : IsS w sv ss) (hSl : ss.length ≤ 9223372036854775807) :
    Calls Try.prog 5 #[.int .i64 n, sv] w fun e w' => e = .returned (.bool true) ∧ Below w.heap.size w w' := by
  obtain ⟨sa, sc, rfl⟩ := hS.form
  have HAL := hide alive_any
  have HPK := hide (pick_any n 40 (by decide) (by decide) w)
  obtain ⟨hp1, hp2⟩ := pick_bound n 40 (by decide)
  obtain ⟨q, hq⟩ : ∃ q : Nat, pickN n 40 = (q : Int) := ⟨(pickN n 40).toNat, by unfold pickN; omega⟩
  have hq40 : q < 40 := by unfold pickN at hq; omega
  rw [hq] at HPK
  clear hp1 hp2 hq
  have HA : Hid (∀ i, i < ss.length → ∃ (x : AV) (b o : Nat), sa = some ⟨b, o, none⟩ ∧ (∀ y, Below w.heap.size w y → y.cell? ⟨b, o + i * 3, none⟩ = some (.int .i64 x.kind) ∧ y.cell? ⟨b, o + i * 3 + 1, none⟩ = some (.int .i64 x.n) ∧ y.cell? ⟨b, o + i * 3 + 2, none⟩ = some x.lv) ∧ IsZ w x.lv x.l ∧ x.l.length ≤ 9223372036854775807) := hide (fun i hi => by
    obtain ⟨b, o, e, h1, h2⟩ := hS.at_ i _ (List.getElem?_eq_getElem hi)
    exact ⟨_, b, o, e, h1, h2⟩)
  have hw1 : wrap64 (1 + (q : Int)) = ((q + 1 : Nat) : Int) := by unfold wrap64; omega
  have HN := hide (live_new (q + 1) w (by omega))
  have hnl : (newS (q + 1)).length = q + 1 := by unfold newS; rw [List.length_replicate]
  clear hS
  generalize hK : q + 1 = K at *
  have hK2 : (1 : Int) + (q : Int) = (K : Int) := by omega
  have hK40 : K ≤ 40 := by omega
  generalize ss.length = N at *
  go_enter Try.func5, Try.ntmps5
  go_wp2_with fail
  refine HPK.out.mono ?_
  rintro e w0 ⟨rfl, rfl⟩
  clear HPK
  go_wp2_with fail
  refine HN.out.mono ?_
  rintro e w1 ⟨pa, rfl, H1⟩
  clear HN
  have HP0 : Hid (Liv w0 (.pointer (some pa)) (newS K) w1 ∧ (newS K).length = K) := hide ⟨H1.out, hnl⟩
  clear H1 hnl hK hK2 hw1
  generalize newS K = L0 at *
  go_wp2
  go_loopw [8] (fun vi wr => ∃ (i : Nat) (l : SL), vi = .int .i64 (i : Int) ∧ i ≤ N ∧ i ≤ 60 ∧ Hid (Liv w0 (.pointer (some pa)) l wr ∧ l.length = K)) (fun vi _ => 60 - (intOf vi).toNat)
  case atStart => exact ⟨0, L0, rfl, Nat.zero_le _, by omega, HP0⟩
  case round =>
    clear HP0
    obtain ⟨i, l, rfl, hi, hi60, HP⟩ := hrel
    by_cases hgo : i < N ∧ i < 60
    · have g1 : (i : Int) < N := by omega
      have g2 : (i : Int) < 60 := by omega
      obtain ⟨x, b, o, rfl, hc, hz, hzl⟩ := HA.out i hgo.1
      obtain ⟨c0, c1, c2⟩ := hc wr HP.out.1.b
      obtain ⟨za, zc, hzf⟩ := hz.form
      by_cases h60 : x.l.length ≤ 60
      · have h60I : (x.l.length : Int) ≤ 60 := by omega
        have hl96 : l.length ≤ 4096 := by have := HP.out.2; omega
        have HPL := hide (live_play HP.out.1 hl96 x hz hzl)
        have HML := hide ((model_len l x).trans HP.out.2)
        rw [hzf] at c2
        obtain ⟨kind, an, al, alv⟩ := x
        simp only [] at *
        subst hzf
        clear hc hz hzl HP hl96
        generalize al.length = zn at *
        go_wp2_with fail
        refine HPL.out.mono ?_
        rintro e y1 ⟨⟨z1, z2, rfl⟩, HP1⟩
        clear HPL
        go_wp2
        go_roundw
        case rel => exact ⟨i + 1, _, by go_num, by omega, by omega, hide ⟨HP1.out, HML.out⟩⟩
        case measure => simp [intOf]; omega
      · have h60I : ¬ (x.l.length : Int) ≤ 60 := by omega
        rw [hzf] at c2
        obtain ⟨kind, an, al, alv⟩ := x
        simp only [] at *
        subst hzf
        clear hc hz hzl h60
        generalize al.length = zn at *
        go_wp2
        go_roundw
        case rel => exact ⟨i + 1, l, by go_num, by omega, by omega, HP⟩
        case measure => simp [intOf]; omega
    · have g : ¬ (i < N ∧ i < 60) := hgo
      have HP1 := hide HP.out.1
      have HLK := hide HP.out.2
      have hl96 : l.length ≤ 4096 := by have := HP.out.2; omega
      have HF0 := hide (live_free HP.out.1 hl96)
      generalize hF : freeS l = F0 at *
      have HFE := hide hF
      clear hF HP HA hgo hl96
      rcases (by omega : ¬ (i : Int) < N ∨ ((i : Int) < N ∧ ¬ (i : Int) < 60)) with g1 | ⟨g1, g2⟩
      all_goals
        clear g
        go_wp2_with fail
        refine HF0.out.mono ?_
        rintro e y0 ⟨rfl, HP2⟩
        have HST : Hid (Liv w0 (.pointer (some pa)) l y0 ∧ freeS l = F0 ∧ l.length = K ∧ ∀ j : Nat, (j : Int) ≤ -1 → l[j]? = some true) := hide ⟨HP2.out, HFE.out, HLK.out, fun j hj => by omega⟩
        have hF4 : F0 ≤ 4096 := by
          have h1 := HFE.out
          have h2 := HLK.out
          have h3 : freeS l ≤ l.length := List.count_le_length
          omega
        clear HF0 HP1 HP2 HFE HLK
        generalize l = l0 at *
        go_wp2
        generalize wr = wr0 at *
        go_loopw [9, 10] (fun vl vf wr => ∃ (la : Int) (F : Nat) (l : SL), vl = .int .i64 la ∧ vf = .int .i64 (F : Int) ∧ F ≤ 4096 ∧ Hid (Liv w0 (.pointer (some pa)) l wr ∧ freeS l = F ∧ l.length = K ∧ ∀ j : Nat, (j : Int) ≤ la → l[j]? = some true)) (fun _ vf _ => (intOf vf).toNat)
        case atStart => exact ⟨-1, F0, l0, rfl, rfl, hF4, HST⟩
        case round =>
          clear HST hF4
          obtain ⟨la, F, l, rfl, rfl, hF4, HS⟩ := hrel
          rcases Nat.eq_zero_or_pos F with hz | hpos
          · subst hz
            have hl96 : l.length ≤ 4096 := by have := HS.out.2.2.1; omega
            have hT := live_take HS.out.1 hl96
            rw [full_take HS.out.2.1] at hT
            have HT := hide hT
            have HFR : Hid (∀ x, Liv w0 (.pointer (some pa)) l x → Calls Try.prog 14 #[.pointer (some pa)] x fun e y => e = .returned (.int .i64 0) ∧ Hid (Liv w0 (.pointer (some pa)) l y)) := hide (fun x h => by
              have h1 := live_free h hl96
              rw [HS.out.2.1] at h1
              exact h1)
            clear hT hl96 HS
            go_wp2_with fail
            refine HT.out.mono ?_
            rintro e y1 ⟨rfl, HP1⟩
            clear HT
            go_wp2_with fail
            refine (HAL.out _).mono ?_
            rintro e y2 ⟨rfl, hb2⟩
            have HP2 := hide (HP1.out.below hb2)
            have HC := hide (HFR.out _ HP2.out)
            clear hb2 HP1 HFR
            go_wp2_with fail
            refine HC.out.mono ?_
            rintro e y3 ⟨rfl, HP3⟩
            have HE := hide HP3.out.b
            clear HC HP2 HP3
            go_wp2
            go_ret
            exact ⟨rfl, HE.out⟩
          · obtain ⟨F1, rfl⟩ : ∃ F1, F = F1 + 1 := ⟨F - 1, by omega⟩
            have hgt : (0 : Int) < ((F1 + 1 : Nat) : Int) := by omega
            have hlk := HS.out.2.2.1
            have hl96 : l.length ≤ 4096 := by omega
            obtain ⟨a, ha⟩ := least_of_free (l := l) (by rw [HS.out.2.1]; omega)
            have HR := hide (leastR ha)
            have hak : (a : Int) < (K : Int) := by have := HR.out.lt; omega
            have hla : ¬ (a : Int) ≤ la := fun hle => by
              have h1 := HS.out.2.2.2 a hle
              rw [HR.out.no] at h1
              cases h1
            have hka : ¬ (K : Int) ≤ (a : Int) := by omega
            have hF1 : freeS (l.set a true) = F1 := by have h1 := HR.out.fr; have h2 := HS.out.2.1; omega
            obtain ⟨x1, hm, hfs⟩ := FS.begin HS.out.1 hl96
            have HFS := hide hfs
            have HSTEP := hide (fun (x : World) (j : Nat) (t : Bool) (h : FS w0 wr (.pointer (some pa)) l wr.heap.size j x) (hj : l[j]? = some t) => h.step hl96 t hj)
            have HDONE : Hid (∀ x, FS w0 wr (.pointer (some pa)) l wr.heap.size K x → PS w0 (.pointer (some pa)) l (.slice (some ⟨wr.heap.size, 0, none⟩) K K) l x) := hide (fun x h => by rw [← hlk] at h ⊢; exact h.done)
            have HAT : Hid (∀ j : Nat, j < K → ∃ t, l[j]? = some t) := hide (fun j hj => ⟨_, List.getElem?_eq_getElem (by omega)⟩)
            have hsl : (l.set a true).length ≤ 4096 := by rw [List.length_set]; exact hl96
            have HTAKE : Hid (∀ x u, PS w0 (.pointer (some pa)) l u l x → Calls Try.prog 19 #[.pointer (some pa)] x fun e y => e = .returned (.tuple #[.int .i64 (a : Int), .int .i64 0]) ∧ Hid (PS w0 (.pointer (some pa)) (l.set a true) u l y)) := hide (fun x u h => by
              have h1 := h.take hl96
              rw [HR.out.t1] at h1
              exact h1)
            have HGIVE : Hid (∀ x u, PS w0 (.pointer (some pa)) (l.set a true) u l x → Calls Try.prog 20 #[.pointer (some pa), .int .i64 (a : Int)] x fun e y => e = .returned (.int .i64 0) ∧ Hid (PS w0 (.pointer (some pa)) l u l y)) := hide (fun x u h => by
              have h1 := h.give hsl (a : Int)
              rw [HR.out.g1] at h1
              exact h1)
            have HTAKEN : Hid (∀ x u, PS w0 (.pointer (some pa)) (l.set a true) u l x → Calls Try.prog 16 #[.pointer (some pa), .int .i64 (a : Int)] x fun e y => e = .returned (.bool true) ∧ Hid (PS w0 (.pointer (some pa)) (l.set a true) u l y)) := hide (fun x u h => by
              have h1 := h.taken hsl (a : Int)
              rw [HR.out.tk] at h1
              exact h1)
            have HFREE : Hid (∀ x u, PS w0 (.pointer (some pa)) (l.set a true) u l x → Calls Try.prog 14 #[.pointer (some pa)] x fun e y => e = .returned (.int .i64 (F1 : Int)) ∧ Hid (PS w0 (.pointer (some pa)) (l.set a true) u l y)) := hide (fun x u h => by
              have h1 := h.free hsl
              rw [hF1] at h1
              exact h1)
            have HNEW : Hid (freeS (l.set a true) = F1 ∧ (l.set a true).length = K ∧ ∀ j : Nat, (j : Int) ≤ (a : Int) → (l.set a true)[j]? = some true) := hide ⟨hF1, by rw [List.length_set]; exact hlk, HR.out.all⟩
            have HUP := hide HR.out.up
            have HNO := hide HR.out.no
            have hwF : wrap64 (((F1 + 1 : Nat) : Int) - 1) = (F1 : Int) := by unfold wrap64; omega
            rw [hlk] at hm
            clear hfs hF1 hsl hlk hl96 ha HR HS
            generalize wr.heap.size = gg at *
            go_wp2
            generalize wr = wr1 at *
            go_loopw [12] (fun vi wr => ∃ i : Nat, vi = .int .i64 (i : Int) ∧ i ≤ K ∧ Hid (FS w0 wr1 (.pointer (some pa)) l gg i wr)) (fun vi _ => K - (intOf vi).toNat)
            case atStart => exact ⟨0, rfl, Nat.zero_le _, HFS⟩
            case round =>
              clear HFS
              obtain ⟨i, rfl, hiK, HFS⟩ := hrel
              by_cases hik : i < K
              · have hik2 : (i : Int) < (K : Int) := by omega
                obtain ⟨t, ht⟩ := HAT.out i hik
                have HC := hide (HSTEP.out wr i t HFS.out ht)
                clear ht HFS HTAKE HGIVE HTAKEN HFREE HNEW HUP HNO
                go_wp2_with fail
                refine HC.out.mono ?_
                rintro e y1 ⟨rfl, ⟨old, hold⟩, hfz, HF2⟩
                clear HC
                go_wp2
                go_roundw
                case rel => exact ⟨i + 1, by go_num, by omega, HF2⟩
                case measure => simp [intOf]; omega
              · have hik2 : ¬ (i : Int) < (K : Int) := by omega
                have e : i = K := by omega
                subst e
                have HC := hide (HTAKE.out _ _ (HDONE.out wr HFS.out))
                clear HFS HSTEP HDONE HAT
                go_wp2_with fail
                refine HC.out.mono ?_
                rintro e y1 ⟨rfl, HP1⟩
                have hca := HP1.out.cell a false HNO.out
                have HC1 := hide (HTAKEN.out _ _ HP1.out)
                clear HC HP1 HTAKEN
                go_wp2_with fail
                refine HC1.out.mono ?_
                rintro e y2 ⟨rfl, HP2⟩
                have HC2 := hide (HFREE.out _ _ HP2.out)
                clear HC1 HP2 HFREE hca
                go_wp2_with fail
                refine HC2.out.mono ?_
                rintro e y3 ⟨rfl, HP3⟩
                clear HC2
                go_wp2
                generalize wr = wr2 at *
                go_loopw [15] (fun vi wr => ∃ j : Nat, vi = .int .i64 (j : Int) ∧ j ≤ a ∧ Hid (PS w0 (.pointer (some pa)) (l.set a true) (.slice (some ⟨gg, 0, none⟩) i i) l wr)) (fun vi _ => a - (intOf vi).toNat)
                case atStart => exact ⟨0, rfl, Nat.zero_le _, HP3⟩
                case round =>
                  clear HP3
                  obtain ⟨j, rfl, hja, HP3⟩ := hrel
                  by_cases hj : j < a
                  · have hj2 : (j : Int) < (a : Int) := by omega
                    have hji : (j : Int) < (i : Int) := by omega
                    have hcj := HP3.out.cell j true (HUP.out j hj)
                    clear HTAKE HGIVE HNEW HUP HNO
                    go_wp2
                    go_roundw
                    case rel => exact ⟨j + 1, by go_num, by omega, HP3⟩
                    case measure => simp [intOf]; omega
                  · have hj2 : ¬ (j : Int) < (a : Int) := by omega
                    have HC := hide (HGIVE.out _ _ HP3.out)
                    clear HP3 HGIVE HUP HNO
                    go_wp2_with fail
                    refine HC.out.mono ?_
                    rintro e y4 ⟨rfl, HP4⟩
                    have HC4 := hide (HTAKE.out _ _ HP4.out)
                    clear HC HP4 HTAKE
                    go_wp2_with fail
                    refine HC4.out.mono ?_
                    rintro e y5 ⟨rfl, HP5⟩
                    clear HC4
                    go_wp2
                    go_roundw
                    case rel => exact ⟨(a : Int), F1, _, rfl, by first | rfl | go_num, by omega, hide ⟨HP5.out.liv, HNEW.out⟩⟩
                    case measure => simp [intOf]
end Go.Proofs.Ytkopfigagnagoaa
