import Derived.Test.YthpepkfodcgbcaaWq08
import Derived.Test.YthpepkfodcgbcaaWq03
import Derived.Test.YthpepkfodcgbcaaWq05
/- What the document's Decode answers of any bytes, and Join of any cells. -/
set_option linter.unusedVariables false
set_option linter.unusedSimpArgs false
set_option maxRecDepth 40000
namespace Go.Proofs.Ythpepkfodcgbcaa
open Go.RowKit

theorem rdec_any (bv : Value) (b : Bs) (w : World) (hY : IsY w bv b) (hl : b.length ≤ 1000000) : Calls Try.prog 43 #[bv] w (DecR w b) := by
  by_cases h : b.length = 64
  · by_cases h3 : (b[20]'(by omega)).toNat ≤ 39
    · exact rdec_sector bv b w hY h h3
    · exact rdec_long bv b w hY h (by omega)
  · exact rdec_short bv b w hY hl h
/-- append(v, u...), v bytes of one's own that are not nil. -/
theorem append_some (W : World) (B g n cap : Nat) (u : Value) (l x : Bs) (hn : n = l.length) (hown : W.ownsRow B 5 1 (.slice (some ⟨g, 0, none⟩) n cap) n (Lib.byteCells l)) (hU : IsY W u x) (h1 : l.length ≤ 1000000) (h2 : x.length ≤ 1000000) (hB : B ≤ W.heap.size) :
    ∃ g' c w', (Builtin.append_ #[43, 43] 43 #[.slice (some ⟨g, 0, none⟩) n cap, u]).run Try.prog W = .ok (.slice (some ⟨g', 0, none⟩) (l ++ x).length c) w' ∧ w'.ownsRow B 5 1 (.slice (some ⟨g', 0, none⟩) (l ++ x).length c) (l ++ x).length (Lib.byteCells (l ++ x)) ∧ Below B W w' := by
  subst hn
  rcases hU with ⟨rfl, a, c, rfl⟩ | ⟨b, o, cp, rfl, _, hc⟩
  · have hown0 := hown
    rcases hown.2 with ⟨e, _⟩ | ⟨g1, cap1, cur, e, _, _, h4, h5, _⟩
    · cases e
    · injection e with e1 e2 e3
      injection e1 with e1
      injection e1 with e1
      subst e1 e3
      rw [List.append_nil]
      exact ⟨_, _, _, append_nothingY _ g _ cap a c h4 h5, hown0, Below.refl _ _⟩
  · obtain ⟨v', w', hr, ho, hg, hnil, hat⟩ := run_append_own_at (P := Try.prog) W B 43 43 5 Try.t5 (.int .u8 0) 1 1 Try.underlying43 (by kernel_rfl) (by kernel_rfl) (by kernel_rfl) (by kernel_rfl) (by kernel_rfl) (by omega)
      _ l.length (Lib.byteCells l) hown ⟨b, o, none⟩ x.length cp (Lib.byteCells x) (by rw [byteCells_len, Nat.mul_one])
      (by
        intro j u hu
        have hj : j < x.length := by rw [← byteCells_len]; exact (List.getElem?_eq_some_iff.1 hu).1
        rw [addr_addo, hc j hj]
        rw [byteCells_get x j hj] at hu
        exact hu) (byteCells_one x) (by unfold maxLen; omega) (by omega) hB
    rw [← Lib.byteCells_append, ← List.length_append] at ho
    have hb := (Below.refl B W).grown hg hB (owns_blkY hown)
    rcases ho.2 with ⟨e, _⟩ | ⟨g', c', cur, e, _⟩
    · exact absurd (hnil.1 e).1 (by intro e; cases e)
    · subst e
      exact ⟨g', c', w', hr, ho, hb⟩
def JoinR (w : World) (l : List CL) (e : Ending) (w' : World) : Prop := Below w.heap.size w w' ∧ ((joinC l = none ∧ e = .returned (.tuple #[.slice none 0 0, .bool false])) ∨ ∃ b v, joinC l = some b ∧ e = .returned (.tuple #[v, .bool true]) ∧ w'.ownsRow w.heap.size 5 1 v b.length (Lib.byteCells b))
def dataV (l : List (CL × Value)) : Bs := dataC (l.map Prod.fst)
theorem data_take (l : List (CL × Value)) (i : Nat) (h : i < l.length) : dataV (l.take (i + 1)) = dataV (l.take i) ++ l[i].1.data := by
  unfold dataV dataC
  rw [List.take_succ_eq_append_getElem h, List.map_append, List.map_append, List.flatten_append]
  simp
theorem data_le (l : List (CL × Value)) (m : Nat) (hm : ∀ x ∈ l, x.1.data.length ≤ m) : ∀ i, (dataV (l.take i)).length ≤ i * m
  | 0 => by simp [dataV, dataC]
  | i + 1 => by
    by_cases h : i < l.length
    · rw [data_take l i h, List.length_append]
      have h1 := data_le l m hm i
      have h2 := hm _ (List.getElem_mem h)
      rw [Nat.add_mul, Nat.one_mul]
      omega
    · rw [List.take_of_length_le (by omega), ← List.take_of_length_le (show l.length ≤ i by omega)]
      have h1 := data_le l m hm i
      rw [Nat.add_mul]
      omega
theorem join_is (l : List CL) (c : CL) (r : List CL) (h : l = c :: r) : joinC l = if samesC (cutC (dataC l) c.ep c.li) l then some (dataC l) else none := by
  subst h
  rfl
set_option maxHeartbeats 8000000 in
theorem rjoin_any (lv : Value) (l : List (CL × Value)) (w : World) (hL : IsL w lv l) (hl : l.length ≤ 1000) (hd : ∀ x ∈ l, x.1.data.length ≤ 1000) : Calls Try.prog 64 #[lv] w (JoinR w (l.map Prod.fst)) := by
  obtain ⟨la, lc, rfl⟩ := hL.form
  have HA : Hid (∀ i (hi : i < l.length), ∃ b o, la = some ⟨b, o, none⟩ ∧ (∀ x, Below w.heap.size w x → x.cell? ⟨b, o + i * 5 + 4, none⟩ = some l[i].2 ∧ IsY x l[i].2 l[i].1.data) ∧ l[i].1.data.length ≤ 1000) := hide (fun i hi => by
    obtain ⟨b, o, e, hc, hi2⟩ := hL.at_ i hi
    exact ⟨b, o, e, fun x hb => ⟨(hc x hb).2.2.2.2, hi2.d.below hb⟩, hd _ (List.getElem_mem hi)⟩)
  have HDL := hide (data_le l 1000 hd)
  have HW0 : Hid ((w.alloc (.cells #[] 5)).ownsRow w.heap.size 5 1 (.slice (some ⟨w.heap.size, 0, none⟩) 0 0) 0 (Lib.byteCells (dataV (l.take 0)))) := hide ⟨rfl, .inr ⟨w.heap.size, 0, #[], rfl, Nat.le_refl _, alloc_newC w _, Nat.le_refl _, by decide, rfl, rfl⟩⟩
  have HB0 := hide (below_alloc w (.cells #[] 5))
  have HDT := hide (data_take l)
  have HEND : Hid (∀ x g c, Below w.heap.size w x → x.ownsRow w.heap.size 5 1 (.slice (some ⟨g, 0, none⟩) (dataV l).length c) (dataV l).length (Lib.byteCells (dataV l)) → (l = [] → JoinR w (l.map Prod.fst) (.returned (.tuple #[.slice none 0 0, .bool false])) x.drew) ∧ (l ≠ [] → ∃ b o ep li, la = some ⟨b, o, none⟩ ∧ (∀ y, Below w.heap.size w y → y.cell? ⟨b, o, none⟩ = some (.int .u64 (ep : Int)) ∧ y.cell? ⟨b, o + 1, none⟩ = some (.int .u64 (li : Int))) ∧ ∃ r, (Calls Try.prog 48 #[.slice (some ⟨g, 0, none⟩) (dataV l).length c, .int .u64 (ep : Int), .int .u64 (li : Int)] x.drew fun e y => ∃ va vn vc, e = .returned (.slice va vn vc) ∧ Hid (Below w.heap.size w y) ∧ Hid (Calls Try.prog 76 #[.slice va vn vc, .slice la l.length lc] y fun e z => e = .returned (.bool r) ∧ Hid (Below w.heap.size w z) ∧ Hid (z.ownsRow w.heap.size 5 1 (.slice (some ⟨g, 0, none⟩) (dataV l).length c) (dataV l).length (Lib.byteCells (dataV l))))) ∧ (r = true → joinC (l.map Prod.fst) = some (dataV l)) ∧ (r = false → joinC (l.map Prod.fst) = none))) := hide (fun x g c hb ho => by
    refine ⟨fun e0 => ⟨hb.drew, .inl ⟨by rw [e0]; rfl, rfl⟩⟩, fun e0 => ?_⟩
    have h0 : 0 < l.length := List.length_pos_iff.2 e0
    obtain ⟨b, o, e, hc, hi2⟩ := hL.at_ 0 h0
    have hdl : (dataV l).length ≤ 1000000 := by
      have h1 := HDL.out l.length
      rw [List.take_length] at h1
      have : l.length * 1000 ≤ 1000 * 1000 := Nat.mul_le_mul_right _ hl
      omega
    refine ⟨b, o, l[0].1.ep, l[0].1.li, e, fun y hy => ⟨?_, ?_⟩, samesC (cutC (dataV l) l[0].1.ep l[0].1.li) (l.map Prod.fst), ?_, ?_, ?_⟩
    · have := (hc y hy).1
      rw [Nat.zero_mul, Nat.add_zero] at this
      exact this
    · have := (hc y hy).2.1
      rw [Nat.zero_mul, Nat.add_zero] at this
      exact this
    · refine (rcut_any _ (dataV l) l[0].1.ep l[0].1.li x.drew (owns_isYB ho) hdl hi2.ep hi2.li).mono ?_
      rintro e y ⟨v, vs, rfl, hI, hm, hby⟩
      obtain ⟨va, vc, rfl⟩ := hI.form
      have hbx : Below w.heap.size w y := hb.drew.trans (Below.mono (hby : Below x.drew.heap.size x.drew y) hb.size : Below w.heap.size x.drew y)
      refine ⟨va, _, vc, rfl, hide hbx, hide ((rsames_any vs l _ _ y hI (hL.below hbx) ?_ (by omega)).mono ?_)⟩
      · have h2 : (vs.map Prod.fst).length = vs.length := List.length_map ..
        rw [hm] at h2
        have h3 : (cutC (dataV l) l[0].1.ep l[0].1.li).length ≤ (dataV l).length := by
          unfold cutC
          split
          · simp
          · have h4 := congrArg List.length (cells_data l[0].1.ep l[0].1.li (((dataV l).length + 38) / 39 : Nat) 0 (piecesF (dataV l).length (dataV l)))
            rw [List.length_map] at h4
            rw [h4, piecesF_len _ _ (by omega)]
            omega
        omega
      · rintro e z ⟨rfl, hbz⟩
        rw [hm]
        have hz : Below w.heap.size w z := hbx.trans (hbz.mono hbx.size)
        exact ⟨rfl, hide hz, hide (owns_keepC (owns_keepC (W := y) (show x.drew.ownsRow _ _ _ _ _ _ from ho) hby) hbz)⟩
    · intro hr
      have h5 := join_is (l.map Prod.fst) l[0].1 ((l.map Prod.fst).drop 1) (by
        have : l.map Prod.fst = (l.map Prod.fst).drop 0 := rfl
        rw [this, List.drop_eq_getElem_cons (by simpa using h0), List.getElem_map]
        rfl)
      rw [h5]
      show (if samesC (cutC (dataV l) l[0].1.ep l[0].1.li) (l.map Prod.fst) = true then _ else _) = _
      rw [if_pos hr]
      rfl
    · intro hr
      have h5 := join_is (l.map Prod.fst) l[0].1 ((l.map Prod.fst).drop 1) (by
        have : l.map Prod.fst = (l.map Prod.fst).drop 0 := rfl
        rw [this, List.drop_eq_getElem_cons (by simpa using h0), List.getElem_map]
        rfl)
      rw [h5]
      show (if samesC (cutC (dataV l) l[0].1.ep l[0].1.li) (l.map Prod.fst) = true then _ else _) = _
      rw [if_neg (by rw [hr]; exact Bool.false_ne_true)])
  clear hL hd
  have HNE : Hid (l = [] ↔ l.length = 0) := hide ⟨fun h => by rw [h]; rfl, fun h => List.eq_nil_of_length_eq_zero h⟩
  have HX : Hid (∀ i, i < l.length → ∃ y, l[i]? = some y) := hide (fun i hi => ⟨_, List.getElem?_eq_getElem hi⟩)
  have HA2 : Hid (∀ i y, l[i]? = some y → ∃ b o, la = some ⟨b, o, none⟩ ∧ (∀ x, Below w.heap.size w x → x.cell? ⟨b, o + i * 5 + 4, none⟩ = some y.2 ∧ IsY x y.2 y.1.data) ∧ y.1.data.length ≤ 1000 ∧ dataV (l.take (i + 1)) = dataV (l.take i) ++ y.1.data) := hide (fun i y hy => by
    obtain ⟨hi, rfl⟩ := List.getElem?_eq_some_iff.1 hy
    obtain ⟨b, o, h1, h2, h3⟩ := HA.out i hi
    exact ⟨b, o, h1, h2, h3, HDT.out i hi⟩)
  have HTL : Hid (dataV (l.take l.length) = dataV l) := hide (by rw [List.take_length])
  clear HA HDT
  generalize hLL : l.length = L at *
  go_enter Try.func64, Try.ntmps64
  go_wp2
  go_loopw [4, 5] (fun vb vi wr => ∃ (i g c : Nat), vi = .int .i64 (i : Int) ∧ i ≤ L ∧ vb = .slice (some ⟨g, 0, none⟩) (dataV (l.take i)).length c ∧ Hid (wr.ownsRow w.heap.size 5 1 (.slice (some ⟨g, 0, none⟩) (dataV (l.take i)).length c) (dataV (l.take i)).length (Lib.byteCells (dataV (l.take i)))) ∧ Hid (Below w.heap.size w wr)) (fun _ vi _ => L - (intOf vi).toNat)
  case atStart => exact ⟨0, w.heap.size, 0, rfl, Nat.zero_le _, rfl, HW0, HB0⟩
  case round =>
    clear HW0 HB0
    obtain ⟨i, g, c, rfl, hi, rfl, HO, HB⟩ := hrel
    by_cases hlt : i < L
    · have hlt2 : (i : Int) < L := by omega
      obtain ⟨y, hy⟩ := HX.out i hlt
      obtain ⟨b, o, rfl, hc, hyl, hdt⟩ := HA2.out i y hy
      obtain ⟨hcell, hIY⟩ := hc wr HB.out
      obtain ⟨ya, yc, hyv⟩ := hIY.form
      rw [hyv] at hcell hIY
      have hdl := HDL.out i
      have hdl2 : (dataV (l.take i)).length ≤ 1000000 := by
        have : i * 1000 ≤ 1000 * 1000 := Nat.mul_le_mul_right _ (by omega)
        omega
      obtain ⟨g', c', w', hr, ho, hb⟩ := append_some wr w.heap.size g _ c _ _ _ rfl HO.out hIY hdl2 (by omega) HB.out.size
      rw [← hdt] at hr ho
      have HRUN := hide hr
      have HO2 := hide ho
      have HB2 := hide (HB.out.trans hb)
      clear hr ho hb hdt hdl hdl2 hc hyv hIY hy HO HB
      generalize (dataV (l.take i)).length = n1 at *
      generalize hn2 : (dataV (l.take (i + 1))).length = n2 at *
      generalize y.1.data.length = yl at *
      go_wp2_with (at_builtin; refine wpList_append_run rfl _ _ 43 rfl _ _ _ _ rfl rfl HRUN.out ?_)
      go_roundw
      case rel => exact ⟨i + 1, g', c', by go_num, by omega, by rw [hn2], by rw [hn2]; exact HO2, HB2⟩
      case measure => simp [intOf]; omega
    · have hlt2 : ¬ (i : Int) < L := by omega
      obtain rfl : i = L := by omega
      have ho := HO.out
      rw [HTL.out] at ho
      rw [HTL.out]
      obtain ⟨hE1, hE2⟩ := HEND.out wr g c HB.out ho
      by_cases h0 : i = 0
      · subst h0
        have HF := hide (hE1 (HNE.out.2 rfl))
        clear hE1 hE2 ho HO HB HEND HTL HA2 HX HDL hlt hlt2 hi hl
        generalize (dataV l).length = n1 at *
        go_wp2_with fail
        refine wp_region_held_drew (S := fun W' => (fun _ => True) W') (by kernel_rfl) trivial (fun hHeld => ?_)
        refine wpAnyH_take (i := 0) (v := ?_) rfl (by kernel_rfl) (by kernel_rfl) (by kernel_rfl) (fun _ _ _ h => h) (Or.inl ⟨by kernel_rfl, ?_⟩) hHeld ?_
        rotate_left
        · intro W hSw
          clear hSw
          go_simp <;> with_reducible rfl
        simp only [Act.put, List.getElem_toArray, List.getElem_cons_zero, List.getElem_cons_succ, List.setIfInBounds_toArray, List.set_cons_zero, List.set_cons_succ]
        refine wpAnyH_take (i := 1) (v := ?_) rfl (by kernel_rfl) (by kernel_rfl) (by kernel_rfl) (fun _ _ _ h => h) (Or.inl ⟨by kernel_rfl, ?_⟩) hHeld ?_
        rotate_left
        · intro W hSw
          clear hSw
          go_simp <;> with_reducible rfl
        simp only [Act.put, List.getElem_toArray, List.getElem_cons_zero, List.getElem_cons_succ, List.setIfInBounds_toArray, List.set_cons_zero, List.set_cons_succ]
        refine wpAnyH_take (i := 2) (v := ?_) rfl (by kernel_rfl) (by kernel_rfl) (by kernel_rfl) (fun _ _ _ h => h) (Or.inl ⟨by kernel_rfl, ?_⟩) hHeld ?_
        rotate_left
        · intro W hSw
          clear hSw
          go_simp <;> with_reducible rfl
        simp only [Act.put, List.getElem_toArray, List.getElem_cons_zero, List.getElem_cons_succ, List.setIfInBounds_toArray, List.set_cons_zero, List.set_cons_succ]
        refine wpAnyH_take (i := 3) (v := ?_) rfl (by kernel_rfl) (by kernel_rfl) (by kernel_rfl) (fun _ _ _ h => h) (Or.inl ⟨by kernel_rfl, ?_⟩) hHeld ?_
        rotate_left
        · intro W hSw
          clear hSw
          go_simp <;> with_reducible rfl
        simp only [Act.put, List.getElem_toArray, List.getElem_cons_zero, List.getElem_cons_succ, List.setIfInBounds_toArray, List.set_cons_zero, List.set_cons_succ]
        refine wpAnyH_take (i := 4) (v := undef) rfl (by kernel_rfl) (by kernel_rfl) (by kernel_rfl) (fun _ _ _ h => h) (Or.inr ⟨by kernel_rfl, rfl⟩) hHeld ?_
        simp only [Act.put, List.getElem_toArray, List.getElem_cons_zero, List.getElem_cons_succ, List.setIfInBounds_toArray, List.set_cons_zero, List.set_cons_succ]
        refine wpAnyH_take (i := 5) (v := undef) rfl (by kernel_rfl) (by kernel_rfl) (by kernel_rfl) (fun _ _ _ h => h) (Or.inr ⟨by kernel_rfl, rfl⟩) hHeld ?_
        simp only [Act.put, List.getElem_toArray, List.getElem_cons_zero, List.getElem_cons_succ, List.setIfInBounds_toArray, List.set_cons_zero, List.set_cons_succ]
        refine wpAnyH_take (i := 6) (v := undef) rfl (by kernel_rfl) (by kernel_rfl) (by kernel_rfl) (fun _ _ _ h => h) (Or.inr ⟨by kernel_rfl, rfl⟩) hHeld ?_
        simp only [Act.put, List.getElem_toArray, List.getElem_cons_zero, List.getElem_cons_succ, List.setIfInBounds_toArray, List.set_cons_zero, List.set_cons_succ]
        refine wpAnyH_take (i := 7) (v := undef) rfl (by kernel_rfl) (by kernel_rfl) (by kernel_rfl) (fun _ _ _ h => h) (Or.inr ⟨by kernel_rfl, rfl⟩) hHeld ?_
        simp only [Act.put, List.getElem_toArray, List.getElem_cons_zero, List.getElem_cons_succ, List.setIfInBounds_toArray, List.set_cons_zero, List.set_cons_succ]
        refine wpAnyH_take (i := 8) (v := undef) rfl (by kernel_rfl) (by kernel_rfl) (by kernel_rfl) (fun _ _ _ h => h) (Or.inr ⟨by kernel_rfl, rfl⟩) hHeld ?_
        simp only [Act.put, List.getElem_toArray, List.getElem_cons_zero, List.getElem_cons_succ, List.setIfInBounds_toArray, List.set_cons_zero, List.set_cons_succ]
        refine wpAnyH_take (i := 9) (v := undef) rfl (by kernel_rfl) (by kernel_rfl) (by kernel_rfl) (fun _ _ _ h => h) (Or.inr ⟨by kernel_rfl, rfl⟩) hHeld ?_
        simp only [Act.put, List.getElem_toArray, List.getElem_cons_zero, List.getElem_cons_succ, List.setIfInBounds_toArray, List.set_cons_zero, List.set_cons_succ]
        refine wpAnyH_take (i := 10) (v := undef) rfl (by kernel_rfl) (by kernel_rfl) (by kernel_rfl) (fun _ _ _ h => h) (Or.inr ⟨by kernel_rfl, rfl⟩) hHeld ?_
        simp only [Act.put, List.getElem_toArray, List.getElem_cons_zero, List.getElem_cons_succ, List.setIfInBounds_toArray, List.set_cons_zero, List.set_cons_succ]
        refine wpAnyH_take (i := 11) (v := undef) rfl (by kernel_rfl) (by kernel_rfl) (by kernel_rfl) (fun _ _ _ h => h) (Or.inr ⟨by kernel_rfl, rfl⟩) hHeld ?_
        simp only [Act.put, List.getElem_toArray, List.getElem_cons_zero, List.getElem_cons_succ, List.setIfInBounds_toArray, List.set_cons_zero, List.set_cons_succ]
        refine wpAnyH_take (i := 12) (v := undef) rfl (by kernel_rfl) (by kernel_rfl) (by kernel_rfl) (fun _ _ _ h => h) (Or.inr ⟨by kernel_rfl, rfl⟩) hHeld ?_
        simp only [Act.put, List.getElem_toArray, List.getElem_cons_zero, List.getElem_cons_succ, List.setIfInBounds_toArray, List.set_cons_zero, List.set_cons_succ]
        refine wpAnyH_take (i := 13) (v := undef) rfl (by kernel_rfl) (by kernel_rfl) (by kernel_rfl) (fun _ _ _ h => h) (Or.inr ⟨by kernel_rfl, rfl⟩) hHeld ?_
        simp only [Act.put, List.getElem_toArray, List.getElem_cons_zero, List.getElem_cons_succ, List.setIfInBounds_toArray, List.set_cons_zero, List.set_cons_succ]
        refine wpAnyH_take (i := 14) (v := undef) rfl (by kernel_rfl) (by kernel_rfl) (by kernel_rfl) (fun _ _ _ h => h) (Or.inr ⟨by kernel_rfl, rfl⟩) hHeld ?_
        simp only [Act.put, List.getElem_toArray, List.getElem_cons_zero, List.getElem_cons_succ, List.setIfInBounds_toArray, List.set_cons_zero, List.set_cons_succ]
        refine wpAnyH_take (i := 15) (v := undef) rfl (by kernel_rfl) (by kernel_rfl) (by kernel_rfl) (fun _ _ _ h => h) (Or.inr ⟨by kernel_rfl, rfl⟩) hHeld ?_
        simp only [Act.put, List.getElem_toArray, List.getElem_cons_zero, List.getElem_cons_succ, List.setIfInBounds_toArray, List.set_cons_zero, List.set_cons_succ]
        refine wpAnyH_take (i := 16) (v := undef) rfl (by kernel_rfl) (by kernel_rfl) (by kernel_rfl) (fun _ _ _ h => h) (Or.inr ⟨by kernel_rfl, rfl⟩) hHeld ?_
        simp only [Act.put, List.getElem_toArray, List.getElem_cons_zero, List.getElem_cons_succ, List.setIfInBounds_toArray, List.set_cons_zero, List.set_cons_succ]
        refine wpAnyH_take (i := 17) (v := ?_) rfl (by kernel_rfl) (by kernel_rfl) (by kernel_rfl) (fun _ _ _ h => h) (Or.inl ⟨by kernel_rfl, ?_⟩) hHeld ?_
        rotate_left
        · intro W hSw
          clear hSw
          go_simp <;> with_reducible rfl
        simp only [Act.put, List.getElem_toArray, List.getElem_cons_zero, List.getElem_cons_succ, List.setIfInBounds_toArray, List.set_cons_zero, List.set_cons_succ]
        refine wpAnyH_done (by kernel_rfl) ?_ _
        clear hHeld
        go_wp2
        go_ret2
        exact HF.out
      · have hne : l ≠ [] := fun e => h0 (HNE.out.1 e)
        obtain ⟨b, o, ep, li, rfl, hcc, r, hcut, hr1, hr2⟩ := hE2 hne
        have HCC := hide hcc
        have HCUT := hide hcut
        have HBB := hide HB.out.drew
        have h0I : ((i : Int) == 0) = false := by simp; omega
        have h0N : ¬ (i : Int) = 0 := by omega
        have h0L : (0 : Int) < (i : Int) := by omega
        have h0M : 0 < i := by omega
        have HT : Hid (∀ z, Below w.heap.size w z → z.ownsRow w.heap.size 5 1 (.slice (some ⟨g, 0, none⟩) (dataV l).length c) (dataV l).length (Lib.byteCells (dataV l)) → r = true → JoinR w (l.map Prod.fst) (.returned (.tuple #[.slice (some ⟨g, 0, none⟩) (dataV l).length c, .bool true])) z) := hide (fun z h1 h2 h3 => ⟨h1, .inr ⟨dataV l, _, hr1 h3, rfl, h2⟩⟩)
        have HFF : Hid (∀ z, Below w.heap.size w z → r = false → JoinR w (l.map Prod.fst) (.returned (.tuple #[.slice none 0 0, .bool false])) z) := hide (fun z h1 h3 => ⟨h1, .inl ⟨hr2 h3, rfl⟩⟩)
        clear hE1 hE2 ho HO HB HEND HTL HA2 HX HDL hlt hlt2 hi hl hcc hcut hr1 hr2 HNE hne h0 hLL
        generalize (dataV l).length = n1 at *
        go_wp2_with fail
        refine wp_region_held_drew (S := fun W' => Below w.heap.size w W') (by kernel_rfl) HBB.out (fun hHeld => ?_)
        refine wpAnyH_take (i := 0) (v := ?_) rfl (by kernel_rfl) (by kernel_rfl) (by kernel_rfl) (fun _ _ _ h => h) (Or.inl ⟨by kernel_rfl, ?_⟩) hHeld ?_
        rotate_left
        · intro W hSw
          clear hSw
          go_simp <;> with_reducible rfl
        simp only [Act.put, List.getElem_toArray, List.getElem_cons_zero, List.getElem_cons_succ, List.setIfInBounds_toArray, List.set_cons_zero, List.set_cons_succ]
        refine wpAnyH_take (i := 1) (v := ?_) rfl (by kernel_rfl) (by kernel_rfl) (by kernel_rfl) (fun _ _ _ h => h) (Or.inl ⟨by kernel_rfl, ?_⟩) hHeld ?_
        rotate_left
        · intro W hSw
          clear hSw
          go_simp <;> with_reducible rfl
        simp only [Act.put, List.getElem_toArray, List.getElem_cons_zero, List.getElem_cons_succ, List.setIfInBounds_toArray, List.set_cons_zero, List.set_cons_succ]
        refine wpAnyH_take (i := 2) (v := ?_) rfl (by kernel_rfl) (by kernel_rfl) (by kernel_rfl) (fun _ _ _ h => h) (Or.inl ⟨by kernel_rfl, ?_⟩) hHeld ?_
        rotate_left
        · intro W hSw
          clear hSw
          go_simp <;> with_reducible rfl
        simp only [Act.put, List.getElem_toArray, List.getElem_cons_zero, List.getElem_cons_succ, List.setIfInBounds_toArray, List.set_cons_zero, List.set_cons_succ]
        refine wpAnyH_take (i := 3) (v := ?_) rfl (by kernel_rfl) (by kernel_rfl) (by kernel_rfl) (fun _ _ _ h => h) (Or.inl ⟨by kernel_rfl, ?_⟩) hHeld ?_
        rotate_left
        · intro W hSw
          clear hSw
          go_simp <;> with_reducible rfl
        simp only [Act.put, List.getElem_toArray, List.getElem_cons_zero, List.getElem_cons_succ, List.setIfInBounds_toArray, List.set_cons_zero, List.set_cons_succ]
        refine wpAnyH_take (i := 4) (v := ?_) rfl (by kernel_rfl) (by kernel_rfl) (by kernel_rfl) (fun _ _ _ h => h) (Or.inl ⟨by kernel_rfl, ?_⟩) hHeld ?_
        rotate_left
        · intro W hSw
          clear hSw
          go_simp <;> with_reducible rfl
        simp only [Act.put, List.getElem_toArray, List.getElem_cons_zero, List.getElem_cons_succ, List.setIfInBounds_toArray, List.set_cons_zero, List.set_cons_succ]
        refine wpAnyH_take (i := 5) (v := ?_) rfl (by kernel_rfl) (by kernel_rfl) (by kernel_rfl) (fun _ _ _ h => h) (Or.inl ⟨by kernel_rfl, ?_⟩) hHeld ?_
        rotate_left
        · intro W hSw
          clear hSw
          go_simp <;> with_reducible rfl
        simp only [Act.put, List.getElem_toArray, List.getElem_cons_zero, List.getElem_cons_succ, List.setIfInBounds_toArray, List.set_cons_zero, List.set_cons_succ]
        refine wpAnyH_take (i := 6) (v := ?_) rfl (by kernel_rfl) (by kernel_rfl) (by kernel_rfl) (fun _ _ _ h => h) (Or.inl ⟨by kernel_rfl, ?_⟩) hHeld ?_
        rotate_left
        · intro W hSw
          clear hSw
          go_simp <;> with_reducible rfl
        simp only [Act.put, List.getElem_toArray, List.getElem_cons_zero, List.getElem_cons_succ, List.setIfInBounds_toArray, List.set_cons_zero, List.set_cons_succ]
        refine wpAnyH_take (i := 7) (v := ?_) rfl (by kernel_rfl) (by kernel_rfl) (by kernel_rfl) (fun _ _ _ h => h) (Or.inl ⟨by kernel_rfl, ?_⟩) hHeld ?_
        rotate_left
        · intro W hSw
          clear hSw
          go_simp <;> with_reducible rfl
        simp only [Act.put, List.getElem_toArray, List.getElem_cons_zero, List.getElem_cons_succ, List.setIfInBounds_toArray, List.set_cons_zero, List.set_cons_succ]
        refine wpAnyH_take (i := 8) (v := ?_) rfl (by kernel_rfl) (by kernel_rfl) (by kernel_rfl) (fun _ _ _ h => h) (Or.inl ⟨by kernel_rfl, ?_⟩) hHeld ?_
        rotate_left
        · intro W hSw
          have hc := (HCC.out W hSw).1
          clear hSw
          go_simp <;> with_reducible rfl
        simp only [Act.put, List.getElem_toArray, List.getElem_cons_zero, List.getElem_cons_succ, List.setIfInBounds_toArray, List.set_cons_zero, List.set_cons_succ]
        refine wpAnyH_take (i := 9) (v := ?_) rfl (by kernel_rfl) (by kernel_rfl) (by kernel_rfl) (fun _ _ _ h => h) (Or.inl ⟨by kernel_rfl, ?_⟩) hHeld ?_
        rotate_left
        · intro W hSw
          clear hSw
          go_simp <;> with_reducible rfl
        simp only [Act.put, List.getElem_toArray, List.getElem_cons_zero, List.getElem_cons_succ, List.setIfInBounds_toArray, List.set_cons_zero, List.set_cons_succ]
        refine wpAnyH_take (i := 10) (v := ?_) rfl (by kernel_rfl) (by kernel_rfl) (by kernel_rfl) (fun _ _ _ h => h) (Or.inl ⟨by kernel_rfl, ?_⟩) hHeld ?_
        rotate_left
        · intro W hSw
          clear hSw
          go_simp <;> with_reducible rfl
        simp only [Act.put, List.getElem_toArray, List.getElem_cons_zero, List.getElem_cons_succ, List.setIfInBounds_toArray, List.set_cons_zero, List.set_cons_succ]
        refine wpAnyH_take (i := 11) (v := ?_) rfl (by kernel_rfl) (by kernel_rfl) (by kernel_rfl) (fun _ _ _ h => h) (Or.inl ⟨by kernel_rfl, ?_⟩) hHeld ?_
        rotate_left
        · intro W hSw
          clear hSw
          go_simp <;> with_reducible rfl
        simp only [Act.put, List.getElem_toArray, List.getElem_cons_zero, List.getElem_cons_succ, List.setIfInBounds_toArray, List.set_cons_zero, List.set_cons_succ]
        refine wpAnyH_take (i := 12) (v := ?_) rfl (by kernel_rfl) (by kernel_rfl) (by kernel_rfl) (fun _ _ _ h => h) (Or.inl ⟨by kernel_rfl, ?_⟩) hHeld ?_
        rotate_left
        · intro W hSw
          have hc := (HCC.out W hSw).2
          clear hSw
          go_simp <;> with_reducible rfl
        simp only [Act.put, List.getElem_toArray, List.getElem_cons_zero, List.getElem_cons_succ, List.setIfInBounds_toArray, List.set_cons_zero, List.set_cons_succ]
        refine wpAnyH_take (i := 14) (v := ?_) rfl (by kernel_rfl) (by kernel_rfl) (by kernel_rfl) (fun _ _ _ h => h) (Or.inl ⟨by kernel_rfl, ?_⟩) hHeld ?_
        rotate_left
        · intro W hSw
          clear hSw
          go_simp <;> with_reducible rfl
        simp only [Act.put, List.getElem_toArray, List.getElem_cons_zero, List.getElem_cons_succ, List.setIfInBounds_toArray, List.set_cons_zero, List.set_cons_succ]
        refine wpAnyH_ready (rs := [13]) (by kernel_rfl) (by simp) ?_
        refine AllReadyH.cons rfl (fun K hK => ?_) AllReadyH.nil
        go_simp
        go_wp2_with (first | (go_at_call 48; refine HCUT.out.mono ?_; rintro e y ⟨va, vn, vc, rfl, HBy, HSM⟩))
        refine hK.out _ _ ?_ (fun hHeld => ?_)
        · exact HBy.out
        clear hK K
        try simp only [Act.put, List.getElem_toArray, List.getElem_cons_zero, List.getElem_cons_succ, List.setIfInBounds_toArray, List.set_cons_zero, List.set_cons_succ]
        refine wpAnyH_ready (rs := [15]) (by kernel_rfl) (by simp) ?_
        refine AllReadyH.cons rfl (fun K hK => ?_) AllReadyH.nil
        go_simp
        go_wp2_with (first | (go_at_call 76; refine HSM.out.mono ?_; rintro e z ⟨rfl, HZ1, HZ2⟩))
        refine hK.out _ _ ?_ (fun hHeld => ?_)
        · exact HZ1.out
        clear hK K
        try simp only [Act.put, List.getElem_toArray, List.getElem_cons_zero, List.getElem_cons_succ, List.setIfInBounds_toArray, List.set_cons_zero, List.set_cons_succ]
        refine wpAnyH_take (i := 16) (v := ?_) rfl (by kernel_rfl) (by kernel_rfl) (by kernel_rfl) (fun _ _ _ h => h) (Or.inl ⟨by kernel_rfl, ?_⟩) hHeld ?_
        rotate_left
        · intro W hSw
          clear hSw
          go_simp <;> with_reducible rfl
        simp only [Act.put, List.getElem_toArray, List.getElem_cons_zero, List.getElem_cons_succ, List.setIfInBounds_toArray, List.set_cons_zero, List.set_cons_succ]
        refine wpAnyH_take (i := 17) (v := ?_) rfl (by kernel_rfl) (by kernel_rfl) (by kernel_rfl) (fun _ _ _ h => h) (Or.inl ⟨by kernel_rfl, ?_⟩) hHeld ?_
        rotate_left
        · intro W hSw
          clear hSw
          go_simp <;> with_reducible rfl
        simp only [Act.put, List.getElem_toArray, List.getElem_cons_zero, List.getElem_cons_succ, List.setIfInBounds_toArray, List.set_cons_zero, List.set_cons_succ]
        refine wpAnyH_done (by kernel_rfl) ?_ _
        clear hHeld
        obtain ⟨hz1, hz2⟩ := And.intro HZ1.out HZ2.out
        cases r
        · have HF := hide (HFF.out z hz1 rfl)
          clear HFF HT HZ1 HZ2 hz1 hz2 HCUT HCC
          go_wp2
          go_ret2
          exact HF.out
        · have HF := hide (HT.out z hz1 hz2 rfl)
          clear HFF HT HZ1 HZ2 hz1 hz2 HCUT HCC
          go_wp2
          go_ret2
          exact HF.out
end Go.Proofs.Ythpepkfodcgbcaa
/- Lists of rows of bytes: how they lie, and append of one more. No function of a program in it. -/
set_option linter.unusedVariables false
set_option linter.unusedSimpArgs false
set_option maxRecDepth 4000
namespace Go.Proofs.Ythpepkfodcgbcaa
open Go.RowKit

/-- Bytes lie there, in a block of P if there are any. -/
def IsYP (P : Nat → Prop) (w : World) (v : Value) (l : Bs) : Prop := IsY w v l ∧ (l ≠ [] → ∀ k, v.ownBlock = some k → P k)
theorem isY_keepN {w W : World} {v : Value} {l : Bs} (h : IsY w v l) (hk : l ≠ [] → ∀ k, v.ownBlock = some k → W.heap[k]? = w.heap[k]?) : IsY W v l := by
  by_cases hl : l = []
  · subst hl
    obtain ⟨a, c, rfl⟩ := h.form
    exact .inl ⟨rfl, _, _, rfl⟩
  · exact h.keep (hk hl)
theorem IsYP.keep {P : Nat → Prop} {w W : World} {v : Value} {l : Bs} (h : IsYP P w v l) (hk : ∀ k, P k → W.heap[k]? = w.heap[k]?) : IsYP P W v l := ⟨isY_keepN h.1 fun hl k e => hk k (h.2 hl k e), h.2⟩
theorem isY_old {w : World} {v : Value} {l : Bs} (h : IsY w v l) : IsYP (· < w.heap.size) w v l := by
  refine ⟨h, fun hl k hk => ?_⟩
  rcases h with ⟨e, _⟩ | ⟨b, o, cap, rfl, _, hc⟩
  · exact absurd e hl
  · cases hk
    exact cell_lt (hc 0 (List.length_pos_iff.2 hl))
/-- A list of rows of bytes lies there; each with where it lies; all in blocks of P. -/
def IsR (P : Nat → Prop) (w : World) (v : Value) (l : List (Bs × Value)) : Prop := ((l = [] ∧ ∃ a c, v = .slice a 0 c) ∨ ∃ b o cap, v = .slice (some ⟨b, o, none⟩) l.length cap ∧ P b ∧ ∀ j (hj : j < l.length), w.cell? ⟨b, o + j, none⟩ = some l[j].2) ∧ ∀ x ∈ l, IsYP P w x.2 x.1
theorem IsR.form {P : Nat → Prop} {w : World} {v : Value} {l : List (Bs × Value)} (h : IsR P w v l) : ∃ a c, v = .slice a l.length c := by
  rcases h.1 with ⟨rfl, a, c, rfl⟩ | ⟨b, o, cap, rfl, _⟩
  · exact ⟨_, _, rfl⟩
  · exact ⟨_, _, rfl⟩
theorem IsR.keep {P : Nat → Prop} {w W : World} {v : Value} {l : List (Bs × Value)} (h : IsR P w v l) (hk : ∀ k, P k → W.heap[k]? = w.heap[k]?) : IsR P W v l := by
  refine ⟨?_, fun x hx => (h.2 x hx).keep hk⟩
  rcases h.1 with h | ⟨b, o, cap, rfl, hp, hc⟩
  · exact .inl h
  · exact .inr ⟨b, o, cap, rfl, hp, fun j hj => (cell_blk (hk b hp) _).trans (hc j hj)⟩
theorem IsR.mono {P Q : Nat → Prop} {w : World} {v : Value} {l : List (Bs × Value)} (h : IsR P w v l) (hq : ∀ k, P k → Q k) : IsR Q w v l := by
  refine ⟨?_, fun x hx => ⟨(h.2 x hx).1, fun hl k hk => hq k ((h.2 x hx).2 hl k hk)⟩⟩
  rcases h.1 with h | ⟨b, o, cap, rfl, hp, hc⟩
  · exact .inl h
  · exact .inr ⟨b, o, cap, rfl, hq b hp, hc⟩
theorem IsR.below {w W : World} {v : Value} {l : List (Bs × Value)} (h : IsR (· < w.heap.size) w v l) (hb : Below w.heap.size w W) : IsR (· < W.heap.size) W v l := (h.keep fun k hk => hb.block k hk).mono fun k hk => Nat.lt_of_lt_of_le hk hb.size
theorem IsR.at_ {P : Nat → Prop} {w : World} {a : Option Addr} {n c : Nat} {l : List (Bs × Value)} (h : IsR P w (.slice a n c) l) (i : Nat) (hi : i < l.length) : ∃ b o, a = some ⟨b, o, none⟩ ∧ P b ∧ w.cell? ⟨b, o + i, none⟩ = some l[i].2 ∧ IsYP P w l[i].2 l[i].1 := by
  have hm := h.2 _ (List.getElem_mem hi)
  rcases h.1 with ⟨rfl, _⟩ | ⟨b, o, cap, e, hp, hc⟩
  · simp at hi
  · injection e with e1
    exact ⟨b, o, e1, hp, hc i hi, hm⟩
/-- The records lie there. -/
def IsRs (P : Nat → Prop) (w : World) (v : Value) (recs : List Bs) : Prop := ∃ l : List (Bs × Value), l.map Prod.fst = recs ∧ IsR (fun k => P k ∧ k < w.heap.size) w v l
theorem IsRs.keep {P : Nat → Prop} {w W : World} {v : Value} {recs : List Bs} (h : IsRs P w v recs) (hs : w.heap.size ≤ W.heap.size) (hb : ∀ k, P k → k < w.heap.size → W.heap[k]? = w.heap[k]?) : IsRs P W v recs := by
  obtain ⟨l, e, h⟩ := h
  exact ⟨l, e, (h.keep fun k hk => hb k hk.1 hk.2).mono fun k hk => ⟨hk.1, Nat.lt_of_lt_of_le hk.2 hs⟩⟩
theorem IsRs.below {P : Nat → Prop} {w W : World} {v : Value} {recs : List Bs} (h : IsRs P w v recs) (hb : Below w.heap.size w W) : IsRs P W v recs := h.keep hb.size fun k _ hk => hb.block k hk
theorem IsRs.mono {P Q : Nat → Prop} {w : World} {v : Value} {recs : List Bs} (h : IsRs P w v recs) (hq : ∀ k, P k → k < w.heap.size → Q k) : IsRs Q w v recs := by
  obtain ⟨l, e, h⟩ := h
  exact ⟨l, e, h.mono fun k hk => ⟨hq k hk.1 hk.2, hk.2⟩⟩
theorem IsRs.form {P : Nat → Prop} {w : World} {v : Value} {recs : List Bs} (h : IsRs P w v recs) : ∃ a c, v = .slice a recs.length c := by
  obtain ⟨l, rfl, h⟩ := h
  rw [List.length_map]
  exact h.form
theorem isRs_nil (P : Nat → Prop) (w : World) (a : Option Addr) (c : Nat) : IsRs P w (.slice a 0 c) [] := ⟨[], rfl, .inl ⟨rfl, _, _, rfl⟩, fun x hx => by cases hx⟩
def recsV (l : List (Bs × Value)) : List Value := l.map Prod.snd
theorem recsV_len (l : List (Bs × Value)) : (recsV l).length = l.length := by unfold recsV; rw [List.length_map]
theorem recsV_app (a b : List (Bs × Value)) : recsV (a ++ b) = recsV a ++ recsV b := by unfold recsV; rw [List.map_append]
theorem recsV_get (l : List (Bs × Value)) (j : Nat) (hj : j < l.length) : (recsV l)[j]? = some l[j].2 := by unfold recsV; rw [List.getElem?_map, List.getElem?_eq_getElem hj]; rfl
theorem owns_isR {P : Nat → Prop} {w : World} {B n : Nat} {v : Value} {l : List (Bs × Value)} (h : w.ownsRow B 38 1 v n (recsV l) ∨ w.ownsRow B 43 1 v n (recsV l)) (hp : ∀ k, v.ownBlock = some k → P k) (hc : ∀ x ∈ l, IsYP P w x.2 x.1) : IsR P w v l := by
  refine ⟨?_, hc⟩
  have key : ∀ e, w.ownsRow B e 1 v n (recsV l) → (l = [] ∧ ∃ a c, v = .slice a 0 c) ∨ ∃ b o cap, v = .slice (some ⟨b, o, none⟩) l.length cap ∧ P b ∧ ∀ j (hj : j < l.length), w.cell? ⟨b, o + j, none⟩ = some l[j].2 := by
    intro e h
    have hn : n = l.length := by have := h.1; rw [recsV_len] at this; omega
    subst hn
    rcases h.2 with ⟨rfl, h0⟩ | ⟨g, cap, cur, rfl, _⟩
    · exact .inl ⟨List.eq_nil_of_length_eq_zero h0, _, _, rfl⟩
    · refine .inr ⟨g, 0, cap, rfl, hp g rfl, fun j hj => ?_⟩
      have := h.cells rfl j _ (recsV_get l j hj)
      rw [addr_add] at this
      rw [Nat.zero_add]
      exact this
  rcases h with h | h
  · exact key _ h
  · exact key _ h
theorem own_noR (w : World) (B : Nat) (hB : B ≤ w.heap.size) : (w.alloc (.cells #[] 43)).ownsRow B 43 1 (.slice (some ⟨w.heap.size, 0, none⟩) 0 0) 0 (recsV []) := ⟨rfl, .inr ⟨w.heap.size, 0, #[], rfl, hB, alloc_newC w _, Nat.le_refl _, by decide, rfl, rfl⟩⟩
theorem one_slice {l : List (Bs × Value)} (h : ∀ x ∈ l, ∃ a n c, x.2 = .slice a n c) : ∀ u ∈ recsV l, u.oneCell' = true := by
  intro u hu
  unfold recsV at hu
  obtain ⟨x, hx, rfl⟩ := List.mem_map.1 hu
  obtain ⟨a, n, c, e⟩ := h x hx
  rw [e]
  rfl
/-- append(v, x), v a row of rows of the call's own. -/
theorem append_rec (W : World) (B n : Nat) (v : Value) (l : List (Bs × Value)) (d : Bs) (a : Option Addr) (k c : Nat) (hown : W.ownsRow B 43 1 v n (recsV l)) (hl : n ≤ 1000000) (hB : B ≤ W.heap.size) :
    ∃ a' c' w', (Builtin.append_ #[38, 38] 38 #[v, .slice (some ⟨W.heap.size, 0, none⟩) 1 1]).run Try.prog (W.alloc (.cells #[.slice a k c] 43)) = .ok (.slice a' (n + 1) c') w' ∧ w'.ownsRow B 43 1 (.slice a' (n + 1) c') (n + 1) (recsV (l ++ [(d, .slice a k c)])) ∧ (W.alloc (.cells #[.slice a k c] 43)).grownBy w' v.ownBlock ∧ ((Value.slice a' (n + 1) c').ownBlock = v.ownBlock ∨ (Value.slice a' (n + 1) c').ownBlock = some (W.heap.size + 1)) := by
  have hb := below_alloc W (.cells #[.slice a k c] 43)
  obtain ⟨v', w', hr, ho, hg, _, hat⟩ := run_append_own_at (P := Try.prog) (W.alloc (.cells #[.slice a k c] 43)) B 38 38 43 Try.t43 (.slice none 0 0) 1 24 Try.underlying38 (by kernel_rfl) (by kernel_rfl) (by kernel_rfl) (by kernel_rfl) (by kernel_rfl) (by omega)
      v n (recsV l) (owns_keepC hown hb) ⟨W.heap.size, 0, none⟩ 1 1 (recsV [(d, .slice a k c)]) rfl
      (by
        intro j u hu
        rw [addr_add]
        have hj : j < 1 := (List.getElem?_eq_some_iff.1 hu).1
        obtain rfl : j = 0 := by omega
        have hc : (W.alloc (.cells #[.slice a k c] 43)).cell? ⟨W.heap.size, 0, none⟩ = (#[.slice a k c] : Array Value)[0]? := World.cell?_alloc_mark W _ _ _ 0
        rw [hc]
        exact hu)
      (one_slice (by
        intro x hx
        obtain rfl := List.mem_singleton.1 hx
        exact ⟨_, _, _, rfl⟩)) (by unfold maxLen; omega) (by omega) (Nat.le_trans hB hb.size)
  obtain ⟨a', c', rfl⟩ : ∃ a' c', v' = .slice a' (n + 1) c' := by
    rcases ho.2 with ⟨_, h⟩ | ⟨g, cp, cur, e, _⟩
    · omega
    · exact ⟨_, _, e⟩
  rw [← recsV_app] at ho
  exact ⟨a', c', w', hr, ho, hg, by simpa using hat⟩
/-- append(v, u...), v a row of rows of the call's own, u a row of rows. -/
theorem append_recs (W : World) (B n : Nat) (v u : Value) (xs l : List (Bs × Value)) (P : Nat → Prop) (hown : W.ownsRow B 43 1 v n (recsV xs)) (hv : ∃ g n c, v = .slice (some ⟨g, 0, none⟩) n c) (hU : IsR P W u l) (hz : ∀ y ∈ l, ∃ a n c, y.2 = .slice a n c) (h1 : n ≤ 1000000) (h2 : l.length ≤ 1000000) (hB : B ≤ W.heap.size) :
    ∃ a' c' w', (Builtin.append_ #[38, 38] 38 #[v, u]).run Try.prog W = .ok (.slice a' (n + l.length) c') w' ∧ w'.ownsRow B 43 1 (.slice a' (n + l.length) c') (n + l.length) (recsV (xs ++ l)) ∧ W.grownBy w' v.ownBlock ∧ ((Value.slice a' (n + l.length) c').ownBlock = v.ownBlock ∨ (Value.slice a' (n + l.length) c').ownBlock = some W.heap.size) := by
  obtain ⟨g, n0, c0, rfl⟩ := hv
  rcases hU.1 with ⟨rfl, a, c, rfl⟩ | ⟨b, o, cap, rfl, _, hc⟩
  · rcases hown.2 with ⟨e, _⟩ | ⟨g1, cap1, cur, e, h3, h4, h5, h6, h7, h8⟩
    · cases e
    · injection e with e1 e2 e3
      injection e1 with e1
      injection e1 with e1
      subst e1 e2 e3
      refine ⟨_, _, W, ?_, ?_, World.grownBy.refl _ _, .inl rfl⟩
      · simp [Builtin.append_, go_sem]
        rw [if_pos h5]
        cases a <;> simp [go_sem, storeCells]
      · rw [List.append_nil]
        exact hown
  · obtain ⟨v', w', hr, ho, hg, _, hat⟩ := run_append_own_at (P := Try.prog) W B 38 38 43 Try.t43 (.slice none 0 0) 1 24 Try.underlying38 (by kernel_rfl) (by kernel_rfl) (by kernel_rfl) (by kernel_rfl) (by kernel_rfl) (by omega)
      _ n (recsV xs) hown ⟨b, o, none⟩ l.length cap (recsV l) (by rw [recsV_len, Nat.mul_one])
      (by
        intro j u hu
        have hj : j < l.length := by rw [← recsV_len]; exact (List.getElem?_eq_some_iff.1 hu).1
        rw [recsV_get l j hj] at hu
        rw [addr_addo, hc j hj]
        exact hu)
      (one_slice hz) (by unfold maxLen; omega) (by omega) hB
    obtain ⟨a', c', rfl⟩ : ∃ a' c', v' = .slice a' (n + l.length) c' := by
      rcases ho.2 with ⟨e, h⟩ | ⟨g, cp, cur, e, _⟩
      · rw [e, h]; exact ⟨_, _, rfl⟩
      · exact ⟨_, _, e⟩
    rw [← recsV_app] at ho
    exact ⟨a', c', w', hr, ho, hg, hat⟩
/-- A row of rows that is put together: its own blocks are from B on, what it holds lies below n0 or from B on. -/
structure RecS (P : Nat → Prop) (n0 B : Nat) (x : World) (l : List (Bs × Value)) (v : Value) : Prop where
  o : x.ownsRow B 43 1 v l.length (recsV l)
  c : ∀ y ∈ l, IsYP (fun k => ((k < n0 ∧ P k) ∨ B ≤ k) ∧ k < x.heap.size) x y.2 y.1
  s : ∀ y ∈ l, y.1 ≠ [] → ∀ k, v.ownBlock = some k → y.2.ownBlock ≠ some k
  z : ∀ y ∈ l, ∃ a n c, y.2 = .slice a n c
theorem recS_nil (P : Nat → Prop) (n0 B : Nat) (x : World) : RecS P n0 B x [] (.slice none 0 0) := ⟨⟨rfl, .inl ⟨rfl, rfl⟩⟩, fun y hy => by (cases hy), fun y hy => by (cases hy), fun y hy => by cases hy⟩
theorem RecS.keep {P : Nat → Prop} {n0 B : Nat} {x W : World} {l : List (Bs × Value)} {v : Value} (h : RecS P n0 B x l v) (hs : x.heap.size ≤ W.heap.size) (hk : ∀ k, (k < n0 ∨ B ≤ k) → k < x.heap.size → W.heap[k]? = x.heap[k]?) : RecS P n0 B W l v := by
  refine ⟨⟨h.o.1, ?_⟩, fun y hy => ?_, h.s, h.z⟩
  · rcases h.o.2 with h1 | ⟨g, cap, cur, h1, h2, h3, h4⟩
    · exact .inl h1
    · exact .inr ⟨g, cap, cur, h1, h2, (hk g (.inr h2) (Array.getElem?_eq_some_iff.1 h3).1).trans h3, h4⟩
  · have h1 := (h.c y hy).keep fun k hp => hk k (hp.1.elim (fun q => .inl q.1) .inr) hp.2
    exact ⟨h1.1, fun hl k hk2 => ⟨(h1.2 hl k hk2).1, Nat.lt_of_lt_of_le (h1.2 hl k hk2).2 hs⟩⟩
theorem RecS.below {P : Nat → Prop} {n0 B : Nat} {x W : World} {l : List (Bs × Value)} {v : Value} (h : RecS P n0 B x l v) (hb : Below x.heap.size x W) : RecS P n0 B W l v := h.keep hb.size fun k _ hk => hb.block k hk
theorem RecS.isRs {P : Nat → Prop} {n0 B : Nat} {x : World} {l : List (Bs × Value)} {v : Value} (h : RecS P n0 B x l v) (hP : ∀ k, B ≤ k → P k) : IsRs P x v (l.map Prod.fst) :=
  ⟨l, rfl, owns_isR (B := B) (n := l.length) (.inr h.o) (fun k hk => ⟨hP k (h.o.lt k hk).1, (h.o.lt k hk).2⟩) fun y hy => ⟨(h.c y hy).1, fun hl k hk => ⟨((h.c y hy).2 hl k hk).1.elim (fun q => q.2) (hP k), ((h.c y hy).2 hl k hk).2⟩⟩⟩
/-- What an append leaves as it was. -/
def StayR (B : Nat) (v : Value) (x w' : World) : Prop := Below B x w' ∧ ∀ k, k < x.heap.size → v.ownBlock ≠ some k → w'.heap[k]? = x.heap[k]?
theorem RecS.step {P : Nat → Prop} {n0 B : Nat} {x : World} {l : List (Bs × Value)} {v : Value} (h : RecS P n0 B x l v) {a : Option Addr} {k c : Nat} {d : Bs} (hu : IsY x (.slice a k c) d) (hq : d ≠ [] → ∀ j, (Value.slice a k c).ownBlock = some j → ((j < n0 ∧ P j) ∨ B ≤ j) ∧ v.ownBlock ≠ some j) (hn : l.length ≤ 1000000) (hB : B ≤ x.heap.size) (hn0 : n0 ≤ B) :
    ∃ a' c' w', (Builtin.append_ #[38, 38] 38 #[v, .slice (some ⟨x.heap.size, 0, none⟩) 1 1]).run Try.prog (x.alloc (.cells #[.slice a k c] 43)) = .ok (.slice a' (l.length + 1) c') w' ∧ RecS P n0 B w' (l ++ [(d, .slice a k c)]) (.slice a' (l.length + 1) c') ∧ StayR B v x w' ∧ ((Value.slice a' (l.length + 1) c').ownBlock = v.ownBlock ∨ (Value.slice a' (l.length + 1) c').ownBlock = some (x.heap.size + 1)) := by
  obtain ⟨a', c', w', hr, ho, hg, hat⟩ := append_rec x B l.length v l d a k c h.o hn hB
  have hal := below_alloc x (.cells #[.slice a k c] 43)
  have hkeep : ∀ j, j < x.heap.size → v.ownBlock ≠ some j → w'.heap[j]? = x.heap[j]? := fun j hj hne => (hg.block j (Nat.lt_of_lt_of_le hj hal.size) (fun e => hne e.symm)).trans (hal.block j hj)
  have hsz : x.heap.size ≤ w'.heap.size := Nat.le_trans hal.size hg.size
  have hvl : ∀ j, v.ownBlock = some j → B ≤ j ∧ j < x.heap.size := fun j hj => h.o.lt j hj
  have hyp : ∀ y : Bs × Value, IsYP (fun k => ((k < n0 ∧ P k) ∨ B ≤ k) ∧ k < x.heap.size) x y.2 y.1 → (y.1 ≠ [] → ∀ k, v.ownBlock = some k → y.2.ownBlock ≠ some k) → IsYP (fun k => ((k < n0 ∧ P k) ∨ B ≤ k) ∧ k < w'.heap.size) w' y.2 y.1 := fun y hy hs =>
    ⟨isY_keepN hy.1 fun hl j hj => hkeep j (hy.2 hl j hj).2 (fun e => hs hl j e hj), fun hl j hj => ⟨(hy.2 hl j hj).1, Nat.lt_of_lt_of_le (hy.2 hl j hj).2 hsz⟩⟩
  have hd : IsYP (fun k => ((k < n0 ∧ P k) ∨ B ≤ k) ∧ k < x.heap.size) x (.slice a k c) d := ⟨hu, fun hl j hj => ⟨(hq hl j hj).1, (isY_old hu).2 hl j hj⟩⟩
  refine ⟨a', c', w', hr, ⟨by rw [List.length_append]; exact ho, fun y hy => ?_, fun y hy hl j hj => ?_, fun y hy => ?_⟩, ⟨⟨hg.os, hg.tape, hg.output, hsz, fun j hj => hkeep j (by omega) (fun e => by have := (hvl j e).1; omega)⟩, hkeep⟩, hat⟩
  · rcases List.mem_append.1 hy with hy | hy
    · exact hyp y (h.c y hy) (h.s y hy)
    · obtain rfl := List.mem_singleton.1 hy
      exact hyp _ hd fun hl j hj e => (hq hl j e).2 hj
  · rcases hat with e | e
    · have hj2 := e.symm.trans hj
      rcases List.mem_append.1 hy with hy | hy
      · exact h.s y hy hl j hj2
      · obtain rfl := List.mem_singleton.1 hy
        exact fun e2 => (hq hl j e2).2 hj2
    · intro e2
      have : j = x.heap.size + 1 := by rw [e] at hj; injection hj with hj; omega
      rcases List.mem_append.1 hy with hy | hy
      · have := ((h.c y hy).2 hl j e2).2
        omega
      · obtain rfl := List.mem_singleton.1 hy
        have := (hd.2 hl j e2).2
        omega
  · rcases List.mem_append.1 hy with hy | hy
    · exact h.z y hy
    · obtain rfl := List.mem_singleton.1 hy
      exact ⟨_, _, _, rfl⟩
end Go.Proofs.Ythpepkfodcgbcaa
/- What the document's sectors answers. -/
set_option linter.unusedVariables false
set_option linter.unusedSimpArgs false
set_option maxRecDepth 40000
namespace Go.Proofs.Ythpepkfodcgbcaa
open Go.RowKit

theorem sub_isW {w : World} {B n : Nat} {g c : Nat} {l : List Bs} (h : w.ownsRow B 9 1 (.slice (some ⟨g, 0, none⟩) n c) n (textsV l)) (i j : Nat) (hij : i ≤ j) (hj : j ≤ l.length) : IsW w (.slice (some ⟨g, i, none⟩) (j - i) (c - i)) ((l.drop i).take (j - i)) := by
  obtain ⟨hr, hn⟩ := owns_rowT h
  have hlen : ((l.drop i).take (j - i)).length = j - i := by rw [List.length_take, List.length_drop]; omega
  refine .inr ⟨g, i, c - i, by rw [hlen], fun k hk => ?_⟩
  rw [hlen] at hk
  have h1 : l[i + k]? = some (((l.drop i).take (j - i))[k]'(by omega)) := by
    rw [List.getElem_take, List.getElem_drop]
    exact List.getElem?_eq_getElem (by omega)
  have := hr (i + k) _ h1
  rw [Nat.zero_add] at this
  exact this
set_option maxHeartbeats 2000000 in
theorem rsectors_any (d : DV) (first size : Nat) (w : World) (hI : IsD w d) (hok : OkD d.m) (h1 : d.m.safe.length ≤ 100000) (h2 : d.m.l.length ≤ 100000) (hs : 1 ≤ size) (hf : (first + size) * 4 ≤ d.m.safe.length) :
    Calls Try.prog 42 #[dkA d, .int .i64 (first : Int), .int .i64 (size : Int)] w fun e w' => ∃ a c, e = .returned (.slice a (size * 4) c) ∧ IsW w' (.slice a (size * 4) c) (regW (nowD d.m) first size) ∧ Below w.heap.size w w' := by
  have hb := dk_box w d (Below.refl _ (dkW w d))
  have HNW : Hid (Calls Try.prog 49 #[dkA d] (dkW w d) fun e w' => ∃ g c, e = .returned (.slice (some ⟨g, 0, none⟩) d.m.safe.length c) ∧ Hid (d.m.safe.length ≤ c) ∧ Hid (IsW w' (.slice (some ⟨g, first * 4, none⟩) (size * 4) (c - first * 4)) (regW (nowD d.m) first size) ∧ Below w.heap.size w w')) := hide ((rnow_any d (dkW w d) (hI.below hb.2) hok h1 h2).mono fun e w' hh => by
    obtain ⟨v, rfl, ho, hb2⟩ := hh
    have hl := now_len d.m
    rw [hl] at ho
    rcases ho.2 with ⟨_, h0⟩ | ⟨g, c, cur, rfl, h3, h4, h5, _⟩
    · omega
    · refine ⟨g, c, rfl, hide h5, hide ⟨?_, hb.2.trans (hb2.mono hb.2.size)⟩⟩
      have := sub_isW ho (first * 4) ((first + size) * 4) (by omega) (by rw [hl]; exact hf)
      rw [show (first + size) * 4 - first * 4 = size * 4 by omega] at this
      exact this)
  have hfs : ∀ x, Below (dkW w d).heap.size (dkW w d) x → x.cell? ⟨w.heap.size, 0, none⟩ = some d.sv ∧ x.cell? ⟨w.heap.size, 1, none⟩ = some d.lv ∧ x.cell? ⟨w.heap.size, 2, none⟩ = some (.int .i64 d.m.left) ∧ x.cell? ⟨w.heap.size, 3, none⟩ = some (.bool d.m.fuse) ∧ x.cell? ⟨w.heap.size, 4, none⟩ = some (.bool d.m.off) := fun x h => by
    obtain ⟨k0, k1, k2, k3, k4, _⟩ := dk_cells (dk_box w d h).1
    exact ⟨k0, k1, k2, k3, k4⟩
  obtain ⟨x0, x1, x2, x3, x4⟩ := hfs _ (Below.refl _ _)
  obtain ⟨sa, sc, es⟩ := hI.s.form
  obtain ⟨la, lc, el⟩ := hI.l.form
  obtain ⟨m, sv, lv⟩ := d
  simp only [] at es el HNW x0 x1 x2 x3 x4
  subst es el
  generalize hS : m.safe.length = k1 at *
  clear hfs hI hok hb
  go_enter Try.func42, Try.ntmps42
  go_wp2_with fail
  refine HNW.out.mono ?_
  rintro e w1 ⟨g, c, rfl, hc, hW⟩
  have hc2 := hc.out
  have g1 : ((first : Int) + size) * 4 ≤ c := by omega
  have g2 : ¬ (c : Int) = (first : Int) * 4 := by omega
  have g3 : (first : Int) * 4 ≤ ((first : Int) + size) * 4 := by omega
  clear hc hc2
  clear HNW x0 x1 x2 x3 x4
  go_wp2
  rw [show (first + size) * 4 - first * 4 = size * 4 by omega]
  go_ret
  exact ⟨_, _, rfl, hW.out.1, hW.out.2⟩
end Go.Proofs.Ythpepkfodcgbcaa
/- Cells that are decoded from texts and gathered. -/
set_option linter.unusedVariables false
set_option linter.unusedSimpArgs false
set_option maxRecDepth 40000
namespace Go.Proofs.Ythpepkfodcgbcaa
open Go.RowKit

/-- []byte(s). -/
theorem conv_textY (w : World) (l : Bs) (hl : l.length ≤ 1000000) : ∃ c W, (convert 9 43 (.string ⟨l.toArray⟩)).run Try.prog w = .ok (.slice (some ⟨w.heap.size, 0, none⟩) l.length c) W ∧ IsY W (.slice (some ⟨w.heap.size, 0, none⟩) l.length c) l ∧ Below w.heap.size w W := by
  have hsz : (⟨l.toArray⟩ : ByteArray).size = l.length := by rw [size_list, str_data]
  have hge := grownCap_ge w l.length 0 5
  have hr := Lib.run_convert_string_bytes w 9 43 5 ⟨l.toArray⟩ Try.underlying9 Try.underlying43 Try.underlying5
  rw [hsz] at hr
  refine ⟨_, _, hr, .inr ⟨w.heap.size, 0, _, rfl, hge, fun j hj => ?_⟩, ⟨rfl, rfl, rfl, by rw [Lib.bytesWorld_size]; omega, fun k hk => Lib.bytesWorld_at_old w 5 _ k hk⟩⟩
  have := Lib.bytesWorld_cell w 5 ⟨l.toArray⟩ j (by rw [hsz]; exact hj)
  rw [Nat.zero_add, this, str_data, List.getD_eq_getElem?_getD, List.getElem?_eq_getElem hj]
  rfl
/-- What Decode answers, in one form. -/
def DecA (w : World) (b : Bs) (e : Ending) (w' : World) : Prop := ∃ (c : CL) (a : Option Addr) (k : Nat) (E : Int), e = .returned (.tuple #[clA c (.slice a c.data.length k), .int .i64 E]) ∧ Hid ((E = 8 ∧ decC b = none) ∨ (E = 0 ∧ decC b = some c)) ∧ Hid (IsC w' c (.slice a c.data.length k)) ∧ Hid (∀ j, (Value.slice a c.data.length k).ownBlock = some j → w.heap.size ≤ j ∧ j < w'.heap.size) ∧ Hid (Below w.heap.size w w')
theorem dec_li {b : Bs} {c : CL} (h : decC b = some c) : c.ep < 18446744073709551616 ∧ c.li < 18446744073709551616 ∧ mayC c := by
  obtain ⟨h1, h2, h3, h4⟩ := enc_dec h
  refine ⟨?_, ?_, h2⟩
  · rw [h4]
    exact Nat.lt_of_lt_of_le (num_lt _) (Nat.le_trans (Nat.pow_le_pow_right (by decide) (by rw [List.length_take]; omega : (b.take 8).length ≤ 8)) (by decide))
  · rw [h4]
    exact Nat.lt_of_lt_of_le (num_lt _) (Nat.le_trans (Nat.pow_le_pow_right (by decide) (by rw [List.length_take]; omega : ((b.drop 8).take 8).length ≤ 8)) (by decide))
theorem rdecA (bv : Value) (b : Bs) (w : World) (hY : IsY w bv b) (hl : b.length ≤ 1000000) : Calls Try.prog 43 #[bv] w (DecA w b) := (rdec_any bv b w hY hl).mono fun e w' hh => by
  obtain ⟨hb, ⟨h1, rfl⟩ | ⟨c, dv, h1, rfl, ho⟩⟩ := hh
  · exact ⟨zeroC, none, 0, 8, rfl, hide (.inl ⟨rfl, h1⟩), hide ⟨by decide, by decide, by decide, by decide, .inl ⟨rfl, _, _, rfl⟩⟩, hide (fun j hj => by cases hj), hide hb⟩
  · obtain ⟨a, k, rfl⟩ := owns_formG ho
    obtain ⟨g1, g2, g3⟩ := dec_li h1
    exact ⟨c, a, k, 0, rfl, hide (.inr ⟨rfl, h1⟩), hide ⟨g1, g2, by have := g3.1; have := g3.2.1; have := g3.2.2.1; omega, by have := g3.1; have := g3.2.1; have := g3.2.2.1; omega, owns_isYB ho⟩, hide (fun j hj => ho.lt j hj), hide hb⟩
/-- Cells that are gathered. -/
structure CelS (B : Nat) (x : World) (l : List (CL × Value)) (v : Value) : Prop where
  o : x.ownsRow B 90 5 v l.length (cellsV l)
  c : ∀ y ∈ l, IsC x y.1 y.2 ∧ ∀ k, y.2.ownBlock = some k → B ≤ k ∧ k < x.heap.size
  s : ∀ y ∈ l, ∀ k, v.ownBlock = some k → y.2.ownBlock ≠ some k
theorem CelS.keep {B : Nat} {x W : World} {l : List (CL × Value)} {v : Value} (h : CelS B x l v) (hs : x.heap.size ≤ W.heap.size) (hk : ∀ k, B ≤ k → k < x.heap.size → W.heap[k]? = x.heap[k]?) : CelS B W l v := by
  refine ⟨⟨h.o.1, ?_⟩, fun y hy => ?_, h.s⟩
  · rcases h.o.2 with h1 | ⟨g, cap, cur, h1, h2, h3, h4⟩
    · exact .inl h1
    · exact .inr ⟨g, cap, cur, h1, h2, (hk g h2 (Array.getElem?_eq_some_iff.1 h3).1).trans h3, h4⟩
  · obtain ⟨h1, h2⟩ := h.c y hy
    exact ⟨⟨h1.ep, h1.li, h1.part, h1.of, h1.d.keep fun k e => hk k (h2 k e).1 (h2 k e).2⟩, fun k e => ⟨(h2 k e).1, Nat.lt_of_lt_of_le (h2 k e).2 hs⟩⟩
theorem CelS.below {B : Nat} {x W : World} {l : List (CL × Value)} {v : Value} (h : CelS B x l v) (hb : Below x.heap.size x W) : CelS B W l v := h.keep hb.size fun k _ hk => hb.block k hk
theorem CelS.isL {B : Nat} {x : World} {l : List (CL × Value)} {v : Value} (h : CelS B x l v) : IsL x v l := owns_isL h.o fun y hy => (h.c y hy).1
theorem CelS.step {B : Nat} {x : World} {l : List (CL × Value)} {v : Value} (h : CelS B x l v) {a : Option Addr} {k cap : Nat} {c : CL} (hc : IsC x c (.slice a k cap)) (hq : ∀ j, (Value.slice a k cap).ownBlock = some j → B ≤ j ∧ j < x.heap.size ∧ v.ownBlock ≠ some j) (hn : l.length ≤ 1000000) (hB : B ≤ x.heap.size) :
    ∃ a' c' w', (Builtin.append_ #[69, 69] 69 #[v, .slice (some ⟨x.heap.size, 0, none⟩) 1 1]).run Try.prog (x.alloc (.cells (clC c (.slice a k cap)) 90)) = .ok (.slice a' (l.length + 1) c') w' ∧ CelS B w' (l ++ [(c, .slice a k cap)]) (.slice a' (l.length + 1) c') ∧ Below B x w' ∧ (∀ j, j < x.heap.size → v.ownBlock ≠ some j → w'.heap[j]? = x.heap[j]?) := by
  obtain ⟨a', c', w', hr, ho, hg, hat⟩ := append_cell x B l.length v l c a k cap h.o hn hB
  have hal := below_alloc x (.cells (clC c (.slice a k cap)) 90)
  have hkeep : ∀ j, j < x.heap.size → v.ownBlock ≠ some j → w'.heap[j]? = x.heap[j]? := fun j hj hne => (hg.block j (Nat.lt_of_lt_of_le hj hal.size) (fun e => hne e.symm)).trans (hal.block j hj)
  have hsz : x.heap.size ≤ w'.heap.size := Nat.le_trans hal.size hg.size
  have hvl : ∀ j, v.ownBlock = some j → B ≤ j ∧ j < x.heap.size := fun j hj => h.o.lt j hj
  refine ⟨a', c', w', hr, ⟨by rw [List.length_append]; exact ho, fun y hy => ?_, fun y hy j hj => ?_⟩, ⟨hg.os, hg.tape, hg.output, hsz, fun j hj => hkeep j (by omega) (fun e => by have := (hvl j e).1; omega)⟩, hkeep⟩
  · rcases List.mem_append.1 hy with hy | hy
    · obtain ⟨h1, h2⟩ := h.c y hy
      exact ⟨⟨h1.ep, h1.li, h1.part, h1.of, h1.d.keep fun j e => hkeep j (h2 j e).2 (fun e2 => h.s y hy j e2 e)⟩, fun j e => ⟨(h2 j e).1, Nat.lt_of_lt_of_le (h2 j e).2 hsz⟩⟩
    · obtain rfl := List.mem_singleton.1 hy
      exact ⟨⟨hc.ep, hc.li, hc.part, hc.of, hc.d.keep fun j e => hkeep j (hq j e).2.1 (hq j e).2.2⟩, fun j e => ⟨(hq j e).1, Nat.lt_of_lt_of_le (hq j e).2.1 hsz⟩⟩
  · rcases hat with e | e
    · have hj2 := e.symm.trans hj
      rcases List.mem_append.1 hy with hy | hy
      · exact h.s y hy j hj2
      · obtain rfl := List.mem_singleton.1 hy
        exact fun e2 => (hq j e2).2.2 hj2
    · intro e2
      have : j = x.heap.size + 1 := by rw [e] at hj; injection hj with hj; omega
      rcases List.mem_append.1 hy with hy | hy
      · have := ((h.c y hy).2 j e2).2
        omega
      · obtain rfl := List.mem_singleton.1 hy
        have := (hq j e2).2.1
        omega
/-- A box of five cells that is written over. -/
theorem box5 (W : World) (T : TypeId) (z0 z1 z2 z3 z4 v0 v1 v2 v3 v4 : Value) : (set5 (W.alloc (.cells #[z0, z1, z2, z3, z4] T)) W.heap.size v0 v1 v2 v3 v4).heap[W.heap.size]? = some (.cells #[v0, v1, v2, v3, v4] T (0, 0)) ∧ Below W.heap.size W (set5 (W.alloc (.cells #[z0, z1, z2, z3, z4] T)) W.heap.size v0 v1 v2 v3 v4) ∧ (set5 (W.alloc (.cells #[z0, z1, z2, z3, z4] T)) W.heap.size v0 v1 v2 v3 v4).heap.size = W.heap.size + 1 := by
  refine ⟨?_, below_set5 (Nat.le_refl _) (below_alloc W _) _ _ _ _ _, ?_⟩
  · unfold set5
    rw [setCell_box (setCell_box (setCell_box (setCell_box (setCell_box (alloc_new W _) 0 v0) 1 v1) 2 v2) 3 v3) 4 v4]
    rfl
  · rw [set5_size]
    simp
theorem cells5 {w : World} {A : Nat} {T : TypeId} {v0 v1 v2 v3 v4 : Value} (h : w.heap[A]? = some (.cells #[v0, v1, v2, v3, v4] T (0, 0))) : w.cell? ⟨A, 0, none⟩ = some v0 ∧ w.cell? ⟨A, 1, none⟩ = some v1 ∧ w.cell? ⟨A, 2, none⟩ = some v2 ∧ w.cell? ⟨A, 3, none⟩ = some v3 ∧ w.cell? ⟨A, 4, none⟩ = some v4 := by
  refine ⟨?_, ?_, ?_, ?_, ?_⟩ <;> simp [World.cell?, h]
end Go.Proofs.Ythpepkfodcgbcaa
