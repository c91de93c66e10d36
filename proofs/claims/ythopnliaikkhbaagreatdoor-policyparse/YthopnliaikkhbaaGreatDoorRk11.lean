/- What the document's own Check answers, where all lists are short enough; nothing that was there is written. -/
import Derived.Test.YthopnliaikkhbaaGreatDoorRk0
import Derived.Test.YthopnliaikkhbaaGreatDoorRk1
import Derived.Test.YthopnliaikkhbaaGreatDoorRk2
import Derived.Test.YthopnliaikkhbaaGreatDoorRk3
import Derived.Test.YthopnliaikkhbaaGreatDoorRk4
set_option linter.unusedVariables false
set_option linter.unusedSimpArgs false
set_option maxRecDepth 4000
namespace Go.Proofs.YthopnliaikkhbaaGreatDoor
open Go.RowKit

theorem rcheck_ok (p : PV) (hp : CapP p) (w : World) (hI : IsPo w p) (h1 : p.rs.length ≤ 40) (h2 : p.li.length ≤ 20) (h3 : p.sc.length ≤ 20) (h4 : p.dr.length ≤ 20) (h5 : ∀ r ∈ p.rs, r.at_.length ≤ 20) :
    Calls Tryz.prog 19 #[poA p] w fun e w' => e = .returned (.int .i64 (if okP p.po then 0 else 1)) ∧ Below w.heap.size w w' := by
  by_cases q1 : (1 : Int) ≤ p.de
  · by_cases q2 : p.de ≤ 60
    · cases n1 : namesL p.li
      · exact rcheck_p2 p hp w hI h1 h2 h3 h4 h5 ⟨q1, q2, n1⟩
      · cases n2 : namesL p.sc
        · exact rcheck_p3 p hp w hI h1 h2 h3 h4 h5 ⟨q1, q2, n1, n2⟩
        · exact rcheck_p4 p hp w hI h1 h2 h3 h4 h5 ⟨q1, q2, n1, n2⟩
    · exact rcheck_p1 p hp w hI h1 h2 h3 h4 h5 ⟨q1, q2⟩
  · exact rcheck_p0 p hp w hI h1 h2 h3 h4 h5 q1
set_option maxHeartbeats 4000000 in
theorem rcheck_big (p : PV) (w : World) (hI : IsPo w p) (h1 : p.rs.length ≤ 1000000) (h2 : p.li.length ≤ 1000000) (h3 : p.sc.length ≤ 1000000) (h4 : p.dr.length ≤ 1000000) (hq : 40 < p.rs.length ∨ 20 < p.li.length ∨ 20 < p.sc.length ∨ 20 < p.dr.length) :
    Calls Tryz.prog 19 #[poA p] w fun e w' => e = .returned (.int .i64 4) ∧ Below w.heap.size w w' := by
  have HB := hide (fun x (b : Below (poW w p).heap.size (poW w p) x) => po_box w p b)
  obtain ⟨rs, li, sc, dr, de, rv, lv, sv, dv⟩ := p
  simp only [] at *
  have gr : IsR w rv rs := hI.r
  have gl : IsW w lv li := hI.l
  have gs : IsW w sv sc := hI.s
  have gd : IsW w dv dr := hI.d
  obtain ⟨ra, rc, rfl⟩ := gr.form
  obtain ⟨la, lc, rfl⟩ := gl.form
  obtain ⟨sa, sc', rfl⟩ := gs.form
  obtain ⟨da, dc, rfl⟩ := gd.form
  clear gl gs gd
  have HAT := hide (fun k r (hk : rs[k]? = some r) => gr.at_ k r hk)
  have B0 := hide (Below.refl (poW w ⟨rs, li, sc, dr, de, .slice ra rs.length rc, .slice la li.length lc, .slice sa sc.length sc', .slice da dr.length dc⟩).heap.size (poW w ⟨rs, li, sc, dr, de, .slice ra rs.length rc, .slice la li.length lc, .slice sa sc.length sc', .slice da dr.length dc⟩))
  obtain ⟨c0, c1, c2, c3, c4, bb⟩ := HB.out _ B0.out
  have BB := hide bb
  clear hI bb gr
  have hpa : (40 : Int) < rs.length ∨ (¬ (40 : Int) < rs.length ∧ (20 : Int) < li.length) ∨ (¬ (40 : Int) < rs.length ∧ ¬ (20 : Int) < li.length ∧ (20 : Int) < sc.length) ∨ (¬ (40 : Int) < rs.length ∧ ¬ (20 : Int) < li.length ∧ ¬ (20 : Int) < sc.length ∧ (20 : Int) < dr.length) := by omega
  clear hq
  have hz : (0 : Int) < rs.length ∨ ¬ (0 : Int) < rs.length := by omega
  rcases hpa with i1 | ⟨i1, i2⟩ | ⟨i1, i2, i3⟩ | ⟨i1, i2, i3, i4⟩
  · go_enter Tryz.func19, Tryz.ntmps19
    go_wp2
    go_loop [3, 4] (fun l i => l = .bool true ∧ i = .int .i64 0) (fun _ _ => 0)
    case atStart => exact ⟨rfl, rfl⟩
    case round =>
      obtain ⟨rfl, rfl⟩ := hrel
      rcases hz with hz | hz
      · go_wp2
        go_ret
        exact ⟨rfl, BB.out⟩
      · exact absurd i1 (by omega)
  · go_enter Tryz.func19, Tryz.ntmps19
    go_wp2
    go_loop [3, 4] (fun l i => l = .bool true ∧ i = .int .i64 0) (fun _ _ => 0)
    case atStart => exact ⟨rfl, rfl⟩
    case round =>
      obtain ⟨rfl, rfl⟩ := hrel
      rcases hz with hz | hz
      · go_wp2
        go_ret
        exact ⟨rfl, BB.out⟩
      · go_wp2
        go_ret
        exact ⟨rfl, BB.out⟩
  · go_enter Tryz.func19, Tryz.ntmps19
    go_wp2
    go_loop [3, 4] (fun l i => l = .bool true ∧ i = .int .i64 0) (fun _ _ => 0)
    case atStart => exact ⟨rfl, rfl⟩
    case round =>
      obtain ⟨rfl, rfl⟩ := hrel
      rcases hz with hz | hz
      · go_wp2
        go_ret
        exact ⟨rfl, BB.out⟩
      · go_wp2
        go_ret
        exact ⟨rfl, BB.out⟩
  · go_enter Tryz.func19, Tryz.ntmps19
    go_wp2
    go_loop [3, 4] (fun l i => l = .bool true ∧ i = .int .i64 0) (fun _ _ => 0)
    case atStart => exact ⟨rfl, rfl⟩
    case round =>
      obtain ⟨rfl, rfl⟩ := hrel
      rcases hz with hz | hz
      · go_wp2
        go_ret
        exact ⟨rfl, BB.out⟩
      · go_wp2
        go_ret
        exact ⟨rfl, BB.out⟩
set_option maxHeartbeats 4000000 in
theorem rcheck_big2 (p : PV) (w : World) (hI : IsPo w p) (h1 : p.rs.length ≤ 1000000) (h2 : p.li.length ≤ 1000000) (h3 : p.sc.length ≤ 1000000) (h4 : p.dr.length ≤ 1000000) (g1 : p.rs.length ≤ 40) (g2 : p.li.length ≤ 20) (g3 : p.sc.length ≤ 20) (g4 : p.dr.length ≤ 20) (h5 : (p.rs.any fun r => decide (20 < r.at_.length)) = true) (ha : ∀ r ∈ p.rs, r.at_.length ≤ 1000000) :
    Calls Tryz.prog 19 #[poA p] w fun e w' => e = .returned (.int .i64 4) ∧ Below w.heap.size w w' := by
  have HB := hide (fun x (b : Below (poW w p).heap.size (poW w p) x) => po_box w p b)
  obtain ⟨rs, li, sc, dr, de, rv, lv, sv, dv⟩ := p
  simp only [] at *
  have gr : IsR w rv rs := hI.r
  have gl : IsW w lv li := hI.l
  have gs : IsW w sv sc := hI.s
  have gd : IsW w dv dr := hI.d
  obtain ⟨ra, rc, rfl⟩ := gr.form
  obtain ⟨la, lc, rfl⟩ := gl.form
  obtain ⟨sa, sc', rfl⟩ := gs.form
  obtain ⟨da, dc, rfl⟩ := gd.form
  clear gl gs gd
  have HAT := hide (fun k r (hk : rs[k]? = some r) => gr.at_ k r hk)
  have B0 := hide (Below.refl (poW w ⟨rs, li, sc, dr, de, .slice ra rs.length rc, .slice la li.length lc, .slice sa sc.length sc', .slice da dr.length dc⟩).heap.size (poW w ⟨rs, li, sc, dr, de, .slice ra rs.length rc, .slice la li.length lc, .slice sa sc.length sc', .slice da dr.length dc⟩))
  obtain ⟨c0, c1, c2, c3, c4, bb⟩ := HB.out _ B0.out
  have BB := hide bb
  clear hI bb gr
  have i1 : ¬ (40 : Int) < rs.length := by omega
  have i2 : ¬ (20 : Int) < li.length := by omega
  have i3 : ¬ (20 : Int) < sc.length := by omega
  have i4 : ¬ (20 : Int) < dr.length := by omega
  have H5 := hide h5
  have HLA := hide ha
  clear h5 ha
  go_enter Tryz.func19, Tryz.ntmps19
  go_wp2
  go_loop [3, 4] (fun l i => ∃ (k : Nat) (B : Bool), k ≤ rs.length ∧ l = .bool B ∧ i = .int .i64 k ∧ Hid ((B || (rs.drop k).any fun r => decide (20 < r.at_.length)) = true)) (fun _ i => rs.length - (intOf i).toNat)
  case atStart => exact ⟨0, false, Nat.zero_le _, rfl, rfl, hide (by rw [List.drop_zero, Bool.false_or]; exact H5.out)⟩
  case round =>
    obtain ⟨k, B, hk, rfl, rfl, HR⟩ := hrel
    by_cases hlt : k < rs.length
    · have hlt2 : (k : Int) < rs.length := by omega
      cases B with
      | true =>
        clear HR
        go_wp2
        go_ret
        exact ⟨rfl, BB.out⟩
      | false =>
        obtain ⟨r, hr⟩ : ∃ r, rs[k]? = some r := ⟨_, List.getElem?_eq_getElem hlt⟩
        obtain ⟨⟨b, o, rfl, q⟩, hw⟩ := HAT.out k r hr
        obtain ⟨d0, d1⟩ := q _ BB.out
        obtain ⟨xa, xc, hx⟩ := hw.form
        rw [hx] at d1
        have hst := HR.out
        rw [any_stepR rs k r hr, Bool.false_or] at hst
        have hra := HLA.out r (List.mem_of_getElem? hr)
        clear hw hr q hx HR
        by_cases hle : 20 < r.at_.length
        · have hli : (20 : Int) < r.at_.length := by omega
          clear hst hle
          go_wp2
          go_round
          case rel => exact ⟨k + 1, true, by omega, rfl, by go_num, hide (Bool.true_or _)⟩
          case measure => simp [intOf]; omega
        · have hli : ¬ (20 : Int) < r.at_.length := by omega
          rw [decide_eq_false hle] at hst
          have HR2 := hide hst
          clear hst hle
          go_wp2
          go_round
          case rel => exact ⟨k + 1, false, by omega, rfl, by go_num, HR2⟩
          case measure => simp [intOf]; omega
    · have hlt2 : ¬ (k : Int) < rs.length := by omega
      have hst := HR.out
      rw [List.drop_eq_nil_of_le (by omega)] at hst
      simp only [List.any_nil, Bool.or_false] at hst
      subst hst
      clear HR hlt
      go_wp2
      go_ret
      exact ⟨rfl, BB.out⟩
/-- What the document's own Check answers. -/
theorem rcheck_any (p : PV) (hp : CapP p) (w : World) (hI : IsPo w p) :
    Calls Tryz.prog 19 #[poA p] w fun e w' => e = .returned (.int .i64 (checkP p.po)) ∧ Below w.heap.size w w' := by
  unfold checkP
  rw [large_po]
  have s := hp.s
  by_cases q1 : 40 < p.rs.length ∨ 20 < p.li.length ∨ 20 < p.sc.length ∨ 20 < p.dr.length
  · rw [if_pos (by rcases q1 with q | q | q | q <;> simp [q])]
    exact rcheck_big p w hI (by have := s.r; omega) (by have := s.l; omega) (by have := s.s; omega) (by have := s.d; omega) q1
  · cases h5 : (p.rs.any fun r => decide (20 < r.at_.length))
    · rw [if_neg (by rw [decide_eq_false (by omega : ¬ 40 < p.rs.length), decide_eq_false (by omega : ¬ 20 < p.li.length), decide_eq_false (by omega : ¬ 20 < p.sc.length), decide_eq_false (by omega : ¬ 20 < p.dr.length)]; simp)]
      refine rcheck_ok p hp w hI (by omega) (by omega) (by omega) (by omega) fun r hr => ?_
      have := List.any_eq_false.1 h5 r hr
      simp at this
      omega
    · rw [if_pos (by simp)]
      exact rcheck_big2 p w hI (by omega) (by omega) (by omega) (by omega) (by omega) (by omega) (by omega) (by omega) h5 fun r hr => by have := (s.a r hr).1; omega
end Go.Proofs.YthopnliaikkhbaaGreatDoor
