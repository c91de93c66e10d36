import Derived.Test.YthpepkfodcgbcaaWq13
/- What the program's Join answers. -/
set_option linter.unusedVariables false
set_option linter.unusedSimpArgs false
set_option maxRecDepth 40000
namespace Go.Proofs.Ythpepkfodcgbcaa
open Go.RowKit

def PJoinR (w : World) (l : List CL) (e : Ending) (w' : World) : Prop := Below w.heap.size w w' ∧ ((joinC l = none ∧ ∃ a k, e = .returned (.tuple #[.slice a 0 k, .bool false])) ∨ ∃ b a k, joinC l = some b ∧ e = .returned (.tuple #[.slice a b.length k, .bool true]) ∧ IsY w' (.slice a b.length k) b)
theorem pjoins_any (lv : Value) (l : List (CL × Value)) (w : World) (hL : IsL w lv l) (hl : l.length ≤ 1000) : Calls Try.prog 75 #[lv] w (JoinsR w (l.map Prod.fst)) := by
  by_cases h : l = []
  · subst h
    exact pjoins_none lv w hL
  · exact pjoins_some lv l w hL hl (List.length_pos_iff.2 h)
theorem make_room (w : World) (n : Nat) (hn : n ≤ 1000000) : ∃ w1, (Instr.makeSlice 43 (.int .i64 0) (.int .i64 (n : Int))).run Try.prog w = .ok (.slice (some ⟨w.heap.size, 0, none⟩) 0 n) w1 ∧ w1.ownsRow w.heap.size 5 1 (.slice (some ⟨w.heap.size, 0, none⟩) 0 n) 0 (Lib.byteCells []) ∧ Below w.heap.size w w1 := by
  have hr := run_make (P := Try.prog) w 43 5 Try.t5 (.int .u8 0) Try.underlying43 (by kernel_rfl) (by kernel_rfl) .i64 .i64 0 n (by omega) (by omega) (by rw [show Try.t5.bytes = 1 from by kernel_rfl]; omega) (by omega)
  simp only [Int.toNat_natCast, Int.toNat_zero] at hr
  refine ⟨_, hr, ⟨rfl, .inr ⟨w.heap.size, n, _, rfl, Nat.le_refl _, alloc_newC w _, Nat.zero_le _, by unfold maxLen; omega, ?_, ?_⟩⟩, below_alloc w _⟩
  · rw [size_madeCells]
    show n * Try.t5.size = n * 1
    rw [show Try.t5.size = 1 from by kernel_rfl]
  · simp [Lib.byteCells]
set_option maxHeartbeats 8000000 in
theorem pjoin_any (lv : Value) (l : List (CL × Value)) (w : World) (hL : IsL w lv l) (hl : l.length ≤ 1000) (hd : ∀ x ∈ l, x.1.data.length ≤ 1000) : Calls Try.prog 62 #[lv] w (PJoinR w (l.map Prod.fst)) := by
  have HJ := hide (pjoins_any lv l w hL hl)
  obtain ⟨la, lc, rfl⟩ := hL.form
  have HA2 : Hid (∀ i y, l[i]? = some y → ∃ b o, la = some ⟨b, o, none⟩ ∧ ∃ ya yc, ∀ x, Below w.heap.size w x → (x.cell? ⟨b, o + i * 5, none⟩ = some (.int .u64 (y.1.ep : Int)) ∧ x.cell? ⟨b, o + i * 5 + 1, none⟩ = some (.int .u64 (y.1.li : Int)) ∧ x.cell? ⟨b, o + i * 5 + 2, none⟩ = some (.int .i64 y.1.part) ∧ x.cell? ⟨b, o + i * 5 + 3, none⟩ = some (.int .i64 y.1.of) ∧ x.cell? ⟨b, o + i * 5 + 4, none⟩ = some (.slice ya y.1.data.length yc)) ∧ IsY x (.slice ya y.1.data.length yc) y.1.data) := hide (fun i y hy => by
    obtain ⟨hi, rfl⟩ := List.getElem?_eq_some_iff.1 hy
    obtain ⟨b, o, e, hc, hi2⟩ := hL.at_ i hi
    obtain ⟨ya, yc, hyv⟩ := hi2.d.form
    refine ⟨b, o, e, ya, yc, fun x hb => ⟨?_, ?_⟩⟩
    · rw [← hyv]; exact hc x hb
    · rw [← hyv]; exact hi2.d.below hb)
  have HDT : Hid (∀ i y, l[i]? = some y → dataV (l.take (i + 1)) = dataV (l.take i) ++ y.1.data ∧ y.1.data.length ≤ 1000) := hide (fun i y hy => by
    obtain ⟨hi, rfl⟩ := List.getElem?_eq_some_iff.1 hy
    exact ⟨data_take l i hi, hd _ (List.getElem_mem hi)⟩)
  have HDL := hide (data_le l 1000 hd)
  have HX : Hid (∀ i, i < l.length → ∃ y, l[i]? = some y) := hide (fun i hi => ⟨_, List.getElem?_eq_getElem hi⟩)
  have HTL : Hid (dataV (l.take l.length) = dataV l) := hide (by rw [List.take_length])
  have HD0 : Hid (dataV (l.take 0) = []) := hide rfl
  have HEND : Hid (∀ x g c, Below w.heap.size w x → JoinsC (l.map Prod.fst) → x.ownsRow w.heap.size 5 1 (.slice (some ⟨g, 0, none⟩) (dataV l).length c) (dataV l).length (Lib.byteCells (dataV l)) → PJoinR w (l.map Prod.fst) (.returned (.tuple #[.slice (some ⟨g, 0, none⟩) (dataV l).length c, .bool true])) x) := hide (fun x g c hb hj ho => ⟨hb, .inr ⟨dataV l, _, _, join_yes hj, rfl, owns_isYB ho⟩⟩)
  have HNO : Hid (∀ x, Below w.heap.size w x → ¬ JoinsC (l.map Prod.fst) → PJoinR w (l.map Prod.fst) (.returned (.tuple #[.slice none 0 0, .bool false])) x) := hide (fun x hb hj => ⟨hb, .inl ⟨join_no hj, _, _, rfl⟩⟩)
  clear hL hd
  generalize hLL : l.length = L at *
  have HLL := hide hLL
  clear hLL
  go_enter Try.func62, Try.ntmps62
  go_wp2_with fail
  refine HJ.out.mono ?_
  rintro e w1 ⟨b1, ⟨rfl, hj⟩ | ⟨rfl, hj⟩⟩
  · obtain ⟨w2, hmk, how, hbw⟩ := make_room w1 (L * 39) (by omega)
    have HW0 : Hid (w2.ownsRow w.heap.size 5 1 (.slice (some ⟨w1.heap.size, 0, none⟩) 0 (L * 39)) 0 (Lib.byteCells (dataV (l.take 0)))) := hide (by rw [HD0.out]; exact own_baseY how b1.size)
    have HB0 := hide (b1.trans (hbw.mono b1.size))
    have HJO := hide hj
    rw [show ((L * 39 : Nat) : Int) = (L : Int) * 39 by omega] at hmk
    have hd0 : (dataV (l.take 0)).length = 0 := by rw [HD0.out]; rfl
    clear how hbw b1 hj HJ HNO
    generalize L * 39 = M at *
    go_wp2
    go_loopw [4, 16] (fun vb vi wr => ∃ (i g c : Nat), vi = .int .i64 (i : Int) ∧ i ≤ L ∧ vb = .slice (some ⟨g, 0, none⟩) (dataV (l.take i)).length c ∧ Hid (wr.ownsRow w.heap.size 5 1 (.slice (some ⟨g, 0, none⟩) (dataV (l.take i)).length c) (dataV (l.take i)).length (Lib.byteCells (dataV (l.take i)))) ∧ Hid (Below w.heap.size w wr)) (fun _ vi _ => L - (intOf vi).toNat)
    case atStart => exact ⟨0, w1.heap.size, M, rfl, Nat.zero_le _, by rw [hd0], by rw [hd0]; exact HW0, HB0⟩
    case round =>
      clear HW0 HB0 hd0 hmk
      obtain ⟨i, g, c, rfl, hi, rfl, HO, HB⟩ := hrel
      by_cases hlt : i < L
      · have hlt2 : (i : Int) < L := by omega
        obtain ⟨y, hy⟩ := HX.out i hlt
        obtain ⟨b, o, rfl, ya, yc, hc⟩ := HA2.out i y hy
        obtain ⟨hdt, hyl⟩ := HDT.out i y hy
        obtain ⟨⟨k0, k1, k2, k3, k4⟩, _⟩ := hc wr HB.out
        obtain ⟨yp, yv⟩ := y
        obtain ⟨ep, li, pp, oo, dd⟩ := yp
        simp only [] at *
        obtain ⟨wb, hwb⟩ : ∃ wb, wb = wr.alloc (.cells #[.int .u64 (ep : Int), .int .u64 (li : Int), .int .i64 pp, .int .i64 oo, .slice ya dd.length yc] 90) := ⟨_, rfl⟩
        have hal := below_alloc wr (.cells #[.int .u64 (ep : Int), .int .u64 (li : Int), .int .i64 pp, .int .i64 oo, .slice ya dd.length yc] 90)
        rw [← hwb] at hal
        have hBb := HB.out.trans (hal.mono HB.out.size)
        have hIY := (hc wb hBb).2
        have hdl := HDL.out i
        have hdl2 : (dataV (l.take i)).length ≤ 1000000 := by
          have : i * 1000 ≤ 1000 * 1000 := Nat.mul_le_mul_right _ (by omega)
          omega
        obtain ⟨g', c', w', hr, ho, hb⟩ := append_some wb w.heap.size g _ c _ _ _ rfl (owns_keepC HO.out hal) hIY hdl2 (by omega) hBb.size
        rw [← hdt] at hr ho
        rw [hwb] at hr
        have HRUN := hide hr
        have HO2 := hide ho
        have HB2 := hide (hBb.trans hb)
        clear hr ho hb hdt hdl hdl2 hc hIY hy HO HB hwb hal hBb HDL HDT HX HA2 HEND HTL HD0
        generalize (dataV (l.take i)).length = n1 at *
        generalize hn2 : (dataV (l.take (i + 1))).length = n2 at *
        generalize dd.length = yl at *
        go_wp2_with (at_builtin; refine wpList_append_run rfl _ _ 43 rfl _ _ _ _ rfl rfl HRUN.out ?_)
        go_roundw
        case rel => exact ⟨i + 1, g', c', by go_num, by omega, by rw [hn2], by rw [hn2]; exact HO2, HB2⟩
        case measure => simp [intOf]; omega
      · have hlt2 : ¬ (i : Int) < L := by omega
        obtain rfl : i = L := by omega
        have ho := HO.out
        have htl := HTL.out
        rw [htl] at ho
        have HF := hide (HEND.out wr g c HB.out HJO.out ho)
        rw [htl]
        clear ho htl HO HB HEND HTL HDL HDT HX HA2 HD0
        generalize (dataV l).length = n1 at *
        go_wp2
        go_ret2
        exact HF.out
  · have HF := hide (HNO.out w1 b1 hj)
    clear HNO HEND HJ hj
    go_wp2
    go_ret2
    exact HF.out
end Go.Proofs.Ythpepkfodcgbcaa
