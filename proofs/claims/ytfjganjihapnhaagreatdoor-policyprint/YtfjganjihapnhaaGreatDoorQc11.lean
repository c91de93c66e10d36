/- What slices.Concat of a name and a list answers. -/
import Derived.Test.YtfjganjihapnhaaGreatDoorQb11
set_option linter.unusedVariables false
set_option linter.unusedSimpArgs false
set_option maxRecDepth 4000
namespace Go.Proofs.YtfjganjihapnhaaGreatDoor
open Go.RowKit

theorem append_isW (W : World) (B n : Nat) (v : Value) (xs : List Value) (u : Value) (l : List Bs) (hown : W.ownsRow B 9 1 v n xs) (hv : v ≠ .slice none 0 0) (hU : IsW W u l) (h1 : n ≤ 100000) (h2 : l.length ≤ 100000) (hB : B ≤ W.heap.size) :
    ∃ v' w', (Builtin.append_ #[23, 23] 23 #[v, u]).run Tryz.prog W = .ok v' w' ∧ w'.ownsRow B 9 1 v' (n + l.length) (xs ++ textsV l) ∧ Below B W w' := by
  rcases hU with ⟨rfl, a, c, rfl⟩ | ⟨b, o, cap, rfl, hc⟩
  · have h0 := hown
    rcases h0.2 with ⟨rfl, _⟩ | ⟨g, cap, cur, rfl, h3, h4, h5, h6, h7, h8⟩
    · exact absurd rfl hv
    · refine ⟨_, _, append_nothing W g n cap a c h5 h6, ?_, Below.refl _ _⟩
      simpa [textsV] using hown
  · obtain ⟨v', w', hr, ho, hg, _⟩ := append_texts W B n v xs b o cap l hown (fun j x hj => by
      obtain ⟨hlt, rfl⟩ := List.getElem?_eq_some_iff.1 hj
      exact hc j hlt) (by omega) (by omega) hB
    exact ⟨v', w', hr, ho, (Below.refl B W).grown hg hB (owns_blk hown)⟩
set_option maxHeartbeats 4000000 in
theorem concat_any (nm : Bs) (at_ : List Bs) (g1 g2 : Nat) (u : Value) (w : World) (h0 : w.cell? ⟨g2, 0, none⟩ = some (.slice (some ⟨g1, 0, none⟩) 1 1)) (h1 : w.cell? ⟨g2, 1, none⟩ = some u) (hn : w.cell? ⟨g1, 0, none⟩ = some (.string ⟨nm.toArray⟩)) (hU : IsW w u at_) (hl : at_.length ≤ 1000) :
    Calls Tryz.prog 36 #[.slice (some ⟨g2, 0, none⟩) 2 2] w fun e w' => ∃ v, e = .returned v ∧ w'.ownsRow w.heap.size 9 1 v (1 + at_.length) (textsV (nm :: at_)) ∧ Below w.heap.size w w' := by
  have HG := hide (grow_nil (1 + at_.length) (by omega) (by omega) w)
  have HC : Hid (∀ W, Below w.heap.size w W → W.cell? ⟨g2, 0, none⟩ = some (.slice (some ⟨g1, 0, none⟩) 1 1) ∧ W.cell? ⟨g2, 1, none⟩ = some u ∧ IsW W (.slice (some ⟨g1, 0, none⟩) 1 1) [nm] ∧ IsW W u at_) := hide (fun W b => by
    refine ⟨(b.cell (cell_lt h0)).trans h0, (b.cell (cell_lt h1)).trans h1, .inr ⟨g1, 0, 1, rfl, fun j hj => ?_⟩, hU.below b⟩
    obtain rfl : j = 0 := by simpa using hj
    exact (b.cell (cell_lt hn)).trans hn)
  have hA : Hid (∀ W n v xs u l, W.ownsRow w.heap.size 9 1 v n xs → v ≠ .slice none 0 0 → IsW W u l → n ≤ 100000 → l.length ≤ 100000 → w.heap.size ≤ W.heap.size → ∃ v' w', (Builtin.append_ #[23, 23] 23 #[v, u]).run Tryz.prog W = .ok v' w' ∧ w'.ownsRow w.heap.size 9 1 v' (n + l.length) (xs ++ textsV l) ∧ Below w.heap.size W w') := hide (fun W n v xs u l a b c d e f => append_isW W _ n v xs u l a b c d e f)
  obtain ⟨a, c, rfl⟩ := hU.form
  clear h0 h1 hn hU
  have hi1 : wrap64 (1 + (at_.length : Int)) = 1 + at_.length := by unfold wrap64; omega
  have hi2 : ¬ (1 + (at_.length : Int)) < 0 := by omega
  have hi3 : ((1 + at_.length : Nat) : Int) = 1 + (at_.length : Int) := by omega
  rw [hi3] at HG
  obtain ⟨d0, d1, _, _⟩ := HC.out w (Below.refl _ w)
  go_enter Tryz.func36, Tryz.ntmps36
  go_wp2
  go_loop [3, 11] (fun sz i => (i = .int .i64 0 ∧ sz = .int .i64 0) ∨ (i = .int .i64 1 ∧ sz = .int .i64 1) ∨ (i = .int .i64 2 ∧ sz = .int .i64 (1 + (at_.length : Int)))) (fun _ i => 2 - (intOf i).toNat)
  case atStart => exact .inl ⟨rfl, rfl⟩
  case round =>
    rcases hrel with ⟨rfl, rfl⟩ | ⟨rfl, rfl⟩ | ⟨rfl, rfl⟩
    · go_wp2
      go_round
      case rel => exact .inr (.inl ⟨rfl, rfl⟩)
      case measure => decide
    · go_wp2
      go_round
      case rel => exact .inr (.inr ⟨rfl, rfl⟩)
      case measure => decide
    · clear d0 d1
      go_wp2_with fail
      refine HG.out.mono ?_
      rintro e w1 ⟨cap, rfl, ho, hb⟩
      have HO := hide (show w1.ownsRow w.heap.size 9 1 (.slice (some ⟨w.heap.size, 0, none⟩) 0 cap) 0 (textsV []) from ho)
      have HB := hide hb
      clear ho hb HG
      go_wp2
      go_loopw [6, 27] (fun v i wr => ∃ (n : Nat) (l : List Bs) (rest : List Bs), ((i = .int .i64 0 ∧ n = 0 ∧ l = []) ∨ (i = .int .i64 1 ∧ n = 1 ∧ l = [nm]) ∨ (i = .int .i64 2 ∧ n = 1 + at_.length ∧ l = nm :: at_)) ∧ Hid (v ≠ .slice none 0 0) ∧ Hid (wr.ownsRow w.heap.size 9 1 v n (textsV l)) ∧ Hid (Below w.heap.size w wr)) (fun _ i _ => 2 - (intOf i).toNat)
      case atStart => exact ⟨0, [], [], .inl ⟨rfl, rfl, rfl⟩, hide (by simp), HO, HB⟩
      case round =>
        clear HO HB
        obtain ⟨n, l, _, hc, HV, HO, HB⟩ := hrel
        rcases hc with ⟨rfl, rfl, rfl⟩ | ⟨rfl, rfl, rfl⟩ | ⟨rfl, rfl, rfl⟩
        · obtain ⟨d0, d1, e0, e1⟩ := HC.out _ HB.out
          obtain ⟨v', w', hr, ho, hb⟩ := hA.out _ _ _ _ _ _ HO.out HV.out e0 (by omega) (by simp) HB.out.size
          have HO2 : Hid (w'.ownsRow w.heap.size 9 1 v' 1 (textsV [nm])) := hide ho
          have HV2 : Hid (v' ≠ .slice none 0 0) := hide (fun e => by
            subst e
            rcases ho.2 with ⟨_, h⟩ | ⟨g, cp, cur, h, _⟩
            · simp at h
            · cases h)
          have HB2 := hide (HB.out.trans hb)
          clear e0 e1 HO HV ho hb
          obtain ⟨va, vn, vc, rfl⟩ : ∃ va vn vc, v' = .slice va vn vc := by
            obtain ⟨q1, q2, q3⟩ := owns_formG HO2.out
            exact ⟨_, _, _, q3⟩
          go_wp2_with (at_builtin; refine Lib.wpList_append_run _ rfl _ _ _ _ rfl _ _ rfl rfl _ _ hr ?_)
          go_roundw
          case rel => exact ⟨1, [nm], [], .inr (.inl ⟨rfl, rfl, rfl⟩), HV2, HO2, HB2⟩
          case measure => decide
        · obtain ⟨d0, d1, e0, e1⟩ := HC.out _ HB.out
          obtain ⟨v', w', hr, ho, hb⟩ := hA.out _ _ _ _ _ _ HO.out HV.out e1 (by omega) (by omega) HB.out.size
          have HO2 : Hid (w'.ownsRow w.heap.size 9 1 v' (1 + at_.length) (textsV (nm :: at_))) := hide ho
          have HV2 : Hid (v' ≠ .slice none 0 0) := hide (fun e => by
            subst e
            rcases ho.2 with ⟨_, h⟩ | ⟨g, cp, cur, h, _⟩
            · omega
            · cases h)
          have HB2 := hide (HB.out.trans hb)
          clear e0 e1 HO HV ho hb
          obtain ⟨va, vn, vc, rfl⟩ : ∃ va vn vc, v' = .slice va vn vc := by
            obtain ⟨q1, q2, q3⟩ := owns_formG HO2.out
            exact ⟨_, _, _, q3⟩
          go_wp2_with (at_builtin; refine Lib.wpList_append_run _ rfl _ _ _ _ rfl _ _ rfl rfl _ _ hr ?_)
          go_roundw
          case rel => exact ⟨_, _, [], .inr (.inr ⟨rfl, rfl, rfl⟩), HV2, HO2, HB2⟩
          case measure => decide
        · go_wp2
          go_ret
          exact ⟨_, rfl, HO.out, HB.out⟩
end Go.Proofs.YtfjganjihapnhaaGreatDoor
