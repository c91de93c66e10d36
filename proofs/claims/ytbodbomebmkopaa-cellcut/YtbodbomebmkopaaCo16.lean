/- What the document's Decode answers of any bytes, and Join of any cells. -/
import Derived.Test.YtbodbomebmkopaaCl16
set_option linter.unusedVariables false
set_option linter.unusedSimpArgs false
set_option maxRecDepth 40000
namespace Go.Proofs.Ytbodbomebmkopaa
open Go.RowKit

theorem rdec_any (bv : Value) (b : Bs) (w : World) (hY : IsY w bv b) (hl : b.length ≤ 1000000) : Calls Try.prog 14 #[bv] w (DecR w b) := by
  by_cases h : b.length = 64
  · by_cases h3 : (b[20]'(by omega)).toNat ≤ 39
    · exact rdec_sector bv b w hY h h3
    · exact rdec_long bv b w hY h (by omega)
  · exact rdec_short bv b w hY hl h
/-- append(v, u...), v bytes of one's own that are not nil. -/
theorem append_some (W : World) (B g n cap : Nat) (u : Value) (l x : Bs) (hn : n = l.length) (hown : W.ownsRow B 5 1 (.slice (some ⟨g, 0, none⟩) n cap) n (Lib.byteCells l)) (hU : IsY W u x) (h1 : l.length ≤ 1000000) (h2 : x.length ≤ 1000000) (hB : B ≤ W.heap.size) :
    ∃ g' c w', (Builtin.append_ #[23, 23] 23 #[.slice (some ⟨g, 0, none⟩) n cap, u]).run Try.prog W = .ok (.slice (some ⟨g', 0, none⟩) (l ++ x).length c) w' ∧ w'.ownsRow B 5 1 (.slice (some ⟨g', 0, none⟩) (l ++ x).length c) (l ++ x).length (Lib.byteCells (l ++ x)) ∧ Below B W w' := by
  subst hn
  rcases hU with ⟨rfl, a, c, rfl⟩ | ⟨b, o, cp, rfl, _, hc⟩
  · have hown0 := hown
    rcases hown.2 with ⟨e, _⟩ | ⟨g1, cap1, cur, e, _, _, h4, h5, _⟩
    · cases e
    · injection e with e1 e2 e3
      injection e1 with e1
      injection e1 with e1
      subst e1 e3
      rw [List.append_nil]
      exact ⟨_, _, _, append_nothingY _ g _ cap a c h4 h5, hown0, Below.refl _ _⟩
  · obtain ⟨v', w', hr, ho, hg, hnil, hat⟩ := run_append_own_at (P := Try.prog) W B 23 23 5 Try.t5 (.int .u8 0) 1 1 Try.underlying23 (by kernel_rfl) (by kernel_rfl) (by kernel_rfl) (by kernel_rfl) (by kernel_rfl) (by omega)
      _ l.length (Lib.byteCells l) hown ⟨b, o, none⟩ x.length cp (Lib.byteCells x) (by rw [byteCells_len, Nat.mul_one])
      (by
        intro j u hu
        have hj : j < x.length := by rw [← byteCells_len]; exact (List.getElem?_eq_some_iff.1 hu).1
        rw [addr_addo, hc j hj]
        rw [byteCells_get x j hj] at hu
        exact hu) (byteCells_one x) (by unfold maxLen; omega) (by omega) hB
    rw [← Lib.byteCells_append, ← List.length_append] at ho
    have hb := (Below.refl B W).grown hg hB (owns_blkY hown)
    rcases ho.2 with ⟨e, _⟩ | ⟨g', c', cur, e, _⟩
    · exact absurd (hnil.1 e).1 (by intro e; cases e)
    · subst e
      exact ⟨g', c', w', hr, ho, hb⟩
def JoinR (w : World) (l : List CL) (e : Ending) (w' : World) : Prop := Below w.heap.size w w' ∧ ((joinC l = none ∧ e = .returned (.tuple #[.slice none 0 0, .bool false])) ∨ ∃ b v, joinC l = some b ∧ e = .returned (.tuple #[v, .bool true]) ∧ w'.ownsRow w.heap.size 5 1 v b.length (Lib.byteCells b))
def dataV (l : List (CL × Value)) : Bs := dataC (l.map Prod.fst)
theorem data_take (l : List (CL × Value)) (i : Nat) (h : i < l.length) : dataV (l.take (i + 1)) = dataV (l.take i) ++ l[i].1.data := by
  unfold dataV dataC
  rw [List.take_succ_eq_append_getElem h, List.map_append, List.map_append, List.flatten_append]
  simp
theorem data_le (l : List (CL × Value)) (m : Nat) (hm : ∀ x ∈ l, x.1.data.length ≤ m) : ∀ i, (dataV (l.take i)).length ≤ i * m
  | 0 => by simp [dataV, dataC]
  | i + 1 => by
    by_cases h : i < l.length
    · rw [data_take l i h, List.length_append]
      have h1 := data_le l m hm i
      have h2 := hm _ (List.getElem_mem h)
      rw [Nat.add_mul, Nat.one_mul]
      omega
    · rw [List.take_of_length_le (by omega), ← List.take_of_length_le (show l.length ≤ i by omega)]
      have h1 := data_le l m hm i
      rw [Nat.add_mul]
      omega
theorem join_is (l : List CL) (c : CL) (r : List CL) (h : l = c :: r) : joinC l = if samesC (cutC (dataC l) c.ep c.li) l then some (dataC l) else none := by
  subst h
  rfl
set_option maxHeartbeats 8000000 in
theorem rjoin_any (lv : Value) (l : List (CL × Value)) (w : World) (hL : IsL w lv l) (hl : l.length ≤ 1000) (hd : ∀ x ∈ l, x.1.data.length ≤ 1000) : Calls Try.prog 20 #[lv] w (JoinR w (l.map Prod.fst)) := by
  obtain ⟨la, lc, rfl⟩ := hL.form
  have HA : Hid (∀ i (hi : i < l.length), ∃ b o, la = some ⟨b, o, none⟩ ∧ (∀ x, Below w.heap.size w x → x.cell? ⟨b, o + i * 5 + 4, none⟩ = some l[i].2 ∧ IsY x l[i].2 l[i].1.data) ∧ l[i].1.data.length ≤ 1000) := hide (fun i hi => by
    obtain ⟨b, o, e, hc, hi2⟩ := hL.at_ i hi
    exact ⟨b, o, e, fun x hb => ⟨(hc x hb).2.2.2.2, hi2.d.below hb⟩, hd _ (List.getElem_mem hi)⟩)
  have HDL := hide (data_le l 1000 hd)
  have HW0 : Hid ((w.alloc (.cells #[] 5)).ownsRow w.heap.size 5 1 (.slice (some ⟨w.heap.size, 0, none⟩) 0 0) 0 (Lib.byteCells (dataV (l.take 0)))) := hide ⟨rfl, .inr ⟨w.heap.size, 0, #[], rfl, Nat.le_refl _, alloc_newC w _, Nat.le_refl _, by decide, rfl, rfl⟩⟩
  have HB0 := hide (below_alloc w (.cells #[] 5))
  have HDT := hide (data_take l)
  have HEND : Hid (∀ x g c, Below w.heap.size w x → x.ownsRow w.heap.size 5 1 (.slice (some ⟨g, 0, none⟩) (dataV l).length c) (dataV l).length (Lib.byteCells (dataV l)) → (l = [] → JoinR w (l.map Prod.fst) (.returned (.tuple #[.slice none 0 0, .bool false])) x.drew) ∧ (l ≠ [] → ∃ b o ep li, la = some ⟨b, o, none⟩ ∧ (∀ y, Below w.heap.size w y → y.cell? ⟨b, o, none⟩ = some (.int .u64 (ep : Int)) ∧ y.cell? ⟨b, o + 1, none⟩ = some (.int .u64 (li : Int))) ∧ ∃ r, (Calls Try.prog 17 #[.slice (some ⟨g, 0, none⟩) (dataV l).length c, .int .u64 (ep : Int), .int .u64 (li : Int)] x.drew fun e y => ∃ va vn vc, e = .returned (.slice va vn vc) ∧ Hid (Below w.heap.size w y) ∧ Hid (Calls Try.prog 15 #[.slice va vn vc, .slice la l.length lc] y fun e z => e = .returned (.bool r) ∧ Hid (Below w.heap.size w z) ∧ Hid (z.ownsRow w.heap.size 5 1 (.slice (some ⟨g, 0, none⟩) (dataV l).length c) (dataV l).length (Lib.byteCells (dataV l))))) ∧ (r = true → joinC (l.map Prod.fst) = some (dataV l)) ∧ (r = false → joinC (l.map Prod.fst) = none))) := hide (fun x g c hb ho => by
    refine ⟨fun e0 => ⟨hb.drew, .inl ⟨by rw [e0]; rfl, rfl⟩⟩, fun e0 => ?_⟩
    have h0 : 0 < l.length := List.length_pos_iff.2 e0
    obtain ⟨b, o, e, hc, hi2⟩ := hL.at_ 0 h0
    have hdl : (dataV l).length ≤ 1000000 := by
      have h1 := HDL.out l.length
      rw [List.take_length] at h1
      have : l.length * 1000 ≤ 1000 * 1000 := Nat.mul_le_mul_right _ hl
      omega
    refine ⟨b, o, l[0].1.ep, l[0].1.li, e, fun y hy => ⟨?_, ?_⟩, samesC (cutC (dataV l) l[0].1.ep l[0].1.li) (l.map Prod.fst), ?_, ?_, ?_⟩
    · have := (hc y hy).1
      rw [Nat.zero_mul, Nat.add_zero] at this
      exact this
    · have := (hc y hy).2.1
      rw [Nat.zero_mul, Nat.add_zero] at this
      exact this
    · refine (rcut_any _ (dataV l) l[0].1.ep l[0].1.li x.drew (owns_isY ho) hdl hi2.ep hi2.li).mono ?_
      rintro e y ⟨v, vs, rfl, hI, hm, hby⟩
      obtain ⟨va, vc, rfl⟩ := hI.form
      have hbx : Below w.heap.size w y := hb.drew.trans (Below.mono (hby : Below x.drew.heap.size x.drew y) hb.size : Below w.heap.size x.drew y)
      refine ⟨va, _, vc, rfl, hide hbx, hide ((rsames_any vs l _ _ y hI (hL.below hbx) ?_ (by omega)).mono ?_)⟩
      · have h2 : (vs.map Prod.fst).length = vs.length := List.length_map ..
        rw [hm] at h2
        have h3 : (cutC (dataV l) l[0].1.ep l[0].1.li).length ≤ (dataV l).length := by
          unfold cutC
          split
          · simp
          · have h4 := congrArg List.length (cells_data l[0].1.ep l[0].1.li (((dataV l).length + 38) / 39 : Nat) 0 (piecesF (dataV l).length (dataV l)))
            rw [List.length_map] at h4
            rw [h4, pieces_len _ _ (by omega)]
            omega
        omega
      · rintro e z ⟨rfl, hbz⟩
        rw [hm]
        have hz : Below w.heap.size w z := hbx.trans (hbz.mono hbx.size)
        exact ⟨rfl, hide hz, hide (owns_keepC (owns_keepC (W := y) (show x.drew.ownsRow _ _ _ _ _ _ from ho) hby) hbz)⟩
    · intro hr
      have h5 := join_is (l.map Prod.fst) l[0].1 ((l.map Prod.fst).drop 1) (by
        have : l.map Prod.fst = (l.map Prod.fst).drop 0 := rfl
        rw [this, List.drop_eq_getElem_cons (by simpa using h0), List.getElem_map]
        rfl)
      rw [h5]
      show (if samesC (cutC (dataV l) l[0].1.ep l[0].1.li) (l.map Prod.fst) = true then _ else _) = _
      rw [if_pos hr]
      rfl
    · intro hr
      have h5 := join_is (l.map Prod.fst) l[0].1 ((l.map Prod.fst).drop 1) (by
        have : l.map Prod.fst = (l.map Prod.fst).drop 0 := rfl
        rw [this, List.drop_eq_getElem_cons (by simpa using h0), List.getElem_map]
        rfl)
      rw [h5]
      show (if samesC (cutC (dataV l) l[0].1.ep l[0].1.li) (l.map Prod.fst) = true then _ else _) = _
      rw [if_neg (by rw [hr]; exact Bool.false_ne_true)])
  clear hL hd
  have HNE : Hid (l = [] ↔ l.length = 0) := hide ⟨fun h => by rw [h]; rfl, fun h => List.eq_nil_of_length_eq_zero h⟩
  have HX : Hid (∀ i, i < l.length → ∃ y, l[i]? = some y) := hide (fun i hi => ⟨_, List.getElem?_eq_getElem hi⟩)
  have HA2 : Hid (∀ i y, l[i]? = some y → ∃ b o, la = some ⟨b, o, none⟩ ∧ (∀ x, Below w.heap.size w x → x.cell? ⟨b, o + i * 5 + 4, none⟩ = some y.2 ∧ IsY x y.2 y.1.data) ∧ y.1.data.length ≤ 1000 ∧ dataV (l.take (i + 1)) = dataV (l.take i) ++ y.1.data) := hide (fun i y hy => by
    obtain ⟨hi, rfl⟩ := List.getElem?_eq_some_iff.1 hy
    obtain ⟨b, o, h1, h2, h3⟩ := HA.out i hi
    exact ⟨b, o, h1, h2, h3, HDT.out i hi⟩)
  have HTL : Hid (dataV (l.take l.length) = dataV l) := hide (by rw [List.take_length])
  clear HA HDT
  generalize hLL : l.length = L at *
  go_enter Try.func20, Try.ntmps20
  go_wp2
  go_loopw [4, 5] (fun vb vi wr => ∃ (i g c : Nat), vi = .int .i64 (i : Int) ∧ i ≤ L ∧ vb = .slice (some ⟨g, 0, none⟩) (dataV (l.take i)).length c ∧ Hid (wr.ownsRow w.heap.size 5 1 (.slice (some ⟨g, 0, none⟩) (dataV (l.take i)).length c) (dataV (l.take i)).length (Lib.byteCells (dataV (l.take i)))) ∧ Hid (Below w.heap.size w wr)) (fun _ vi _ => L - (intOf vi).toNat)
  case atStart => exact ⟨0, w.heap.size, 0, rfl, Nat.zero_le _, rfl, HW0, HB0⟩
  case round =>
    clear HW0 HB0
    obtain ⟨i, g, c, rfl, hi, rfl, HO, HB⟩ := hrel
    by_cases hlt : i < L
    · have hlt2 : (i : Int) < L := by omega
      obtain ⟨y, hy⟩ := HX.out i hlt
      obtain ⟨b, o, rfl, hc, hyl, hdt⟩ := HA2.out i y hy
      obtain ⟨hcell, hIY⟩ := hc wr HB.out
      obtain ⟨ya, yc, hyv⟩ := hIY.form
      rw [hyv] at hcell hIY
      have hdl := HDL.out i
      have hdl2 : (dataV (l.take i)).length ≤ 1000000 := by
        have : i * 1000 ≤ 1000 * 1000 := Nat.mul_le_mul_right _ (by omega)
        omega
      obtain ⟨g', c', w', hr, ho, hb⟩ := append_some wr w.heap.size g _ c _ _ _ rfl HO.out hIY hdl2 (by omega) HB.out.size
      rw [← hdt] at hr ho
      have HRUN := hide hr
      have HO2 := hide ho
      have HB2 := hide (HB.out.trans hb)
      clear hr ho hb hdt hdl hdl2 hc hyv hIY hy HO HB
      generalize (dataV (l.take i)).length = n1 at *
      generalize hn2 : (dataV (l.take (i + 1))).length = n2 at *
      generalize y.1.data.length = yl at *
      go_wp2_with (at_builtin; refine wpList_append_run rfl _ _ 23 rfl _ _ _ _ rfl rfl HRUN.out ?_)
      go_roundw
      case rel => exact ⟨i + 1, g', c', by go_num, by omega, by rw [hn2], by rw [hn2]; exact HO2, HB2⟩
      case measure => simp [intOf]; omega
    · have hlt2 : ¬ (i : Int) < L := by omega
      obtain rfl : i = L := by omega
      have ho := HO.out
      rw [HTL.out] at ho
      rw [HTL.out]
      obtain ⟨hE1, hE2⟩ := HEND.out wr g c HB.out ho
      by_cases h0 : i = 0
      · subst h0
        have HF := hide (hE1 (HNE.out.2 rfl))
        clear hE1 hE2 ho HO HB HEND HTL HA2 HX HDL hlt hlt2 hi hl
        generalize (dataV l).length = n1 at *
        go_wp2_with fail
        refine wp_region_held_drew (S := fun W' => (fun _ => True) W') (by kernel_rfl) trivial (fun hHeld => ?_)
        refine wpAnyH_take (i := 0) (v := ?_) rfl (by kernel_rfl) (by kernel_rfl) (by kernel_rfl) (fun _ _ _ h => h) (Or.inl ⟨by kernel_rfl, ?_⟩) hHeld ?_
        rotate_left
        · intro W hSw
          clear hSw
          go_simp <;> with_reducible rfl
        simp only [Act.put, List.getElem_toArray, List.getElem_cons_zero, List.getElem_cons_succ, List.setIfInBounds_toArray, List.set_cons_zero, List.set_cons_succ]
        refine wpAnyH_take (i := 1) (v := ?_) rfl (by kernel_rfl) (by kernel_rfl) (by kernel_rfl) (fun _ _ _ h => h) (Or.inl ⟨by kernel_rfl, ?_⟩) hHeld ?_
        rotate_left
        · intro W hSw
          clear hSw
          go_simp <;> with_reducible rfl
        simp only [Act.put, List.getElem_toArray, List.getElem_cons_zero, List.getElem_cons_succ, List.setIfInBounds_toArray, List.set_cons_zero, List.set_cons_succ]
        refine wpAnyH_take (i := 2) (v := ?_) rfl (by kernel_rfl) (by kernel_rfl) (by kernel_rfl) (fun _ _ _ h => h) (Or.inl ⟨by kernel_rfl, ?_⟩) hHeld ?_
        rotate_left
        · intro W hSw
          clear hSw
          go_simp <;> with_reducible rfl
        simp only [Act.put, List.getElem_toArray, List.getElem_cons_zero, List.getElem_cons_succ, List.setIfInBounds_toArray, List.set_cons_zero, List.set_cons_succ]
        refine wpAnyH_take (i := 3) (v := ?_) rfl (by kernel_rfl) (by kernel_rfl) (by kernel_rfl) (fun _ _ _ h => h) (Or.inl ⟨by kernel_rfl, ?_⟩) hHeld ?_
        rotate_left
        · intro W hSw
          clear hSw
          go_simp <;> with_reducible rfl
        simp only [Act.put, List.getElem_toArray, List.getElem_cons_zero, List.getElem_cons_succ, List.setIfInBounds_toArray, List.set_cons_zero, List.set_cons_succ]
        refine wpAnyH_take (i := 4) (v := undef) rfl (by kernel_rfl) (by kernel_rfl) (by kernel_rfl) (fun _ _ _ h => h) (Or.inr ⟨by kernel_rfl, rfl⟩) hHeld ?_
        simp only [Act.put, List.getElem_toArray, List.getElem_cons_zero, List.getElem_cons_succ, List.setIfInBounds_toArray, List.set_cons_zero, List.set_cons_succ]
        refine wpAnyH_take (i := 5) (v := undef) rfl (by kernel_rfl) (by kernel_rfl) (by kernel_rfl) (fun _ _ _ h => h) (Or.inr ⟨by kernel_rfl, rfl⟩) hHeld ?_
        simp only [Act.put, List.getElem_toArray, List.getElem_cons_zero, List.getElem_cons_succ, List.setIfInBounds_toArray, List.set_cons_zero, List.set_cons_succ]
        refine wpAnyH_take (i := 6) (v := undef) rfl (by kernel_rfl) (by kernel_rfl) (by kernel_rfl) (fun _ _ _ h => h) (Or.inr ⟨by kernel_rfl, rfl⟩) hHeld ?_
        simp only [Act.put, List.getElem_toArray, List.getElem_cons_zero, List.getElem_cons_succ, List.setIfInBounds_toArray, List.set_cons_zero, List.set_cons_succ]
        refine wpAnyH_take (i := 7) (v := undef) rfl (by kernel_rfl) (by kernel_rfl) (by kernel_rfl) (fun _ _ _ h => h) (Or.inr ⟨by kernel_rfl, rfl⟩) hHeld ?_
        simp only [Act.put, List.getElem_toArray, List.getElem_cons_zero, List.getElem_cons_succ, List.setIfInBounds_toArray, List.set_cons_zero, List.set_cons_succ]
        refine wpAnyH_take (i := 8) (v := undef) rfl (by kernel_rfl) (by kernel_rfl) (by kernel_rfl) (fun _ _ _ h => h) (Or.inr ⟨by kernel_rfl, rfl⟩) hHeld ?_
        simp only [Act.put, List.getElem_toArray, List.getElem_cons_zero, List.getElem_cons_succ, List.setIfInBounds_toArray, List.set_cons_zero, List.set_cons_succ]
        refine wpAnyH_take (i := 9) (v := undef) rfl (by kernel_rfl) (by kernel_rfl) (by kernel_rfl) (fun _ _ _ h => h) (Or.inr ⟨by kernel_rfl, rfl⟩) hHeld ?_
        simp only [Act.put, List.getElem_toArray, List.getElem_cons_zero, List.getElem_cons_succ, List.setIfInBounds_toArray, List.set_cons_zero, List.set_cons_succ]
        refine wpAnyH_take (i := 10) (v := undef) rfl (by kernel_rfl) (by kernel_rfl) (by kernel_rfl) (fun _ _ _ h => h) (Or.inr ⟨by kernel_rfl, rfl⟩) hHeld ?_
        simp only [Act.put, List.getElem_toArray, List.getElem_cons_zero, List.getElem_cons_succ, List.setIfInBounds_toArray, List.set_cons_zero, List.set_cons_succ]
        refine wpAnyH_take (i := 11) (v := undef) rfl (by kernel_rfl) (by kernel_rfl) (by kernel_rfl) (fun _ _ _ h => h) (Or.inr ⟨by kernel_rfl, rfl⟩) hHeld ?_
        simp only [Act.put, List.getElem_toArray, List.getElem_cons_zero, List.getElem_cons_succ, List.setIfInBounds_toArray, List.set_cons_zero, List.set_cons_succ]
        refine wpAnyH_take (i := 12) (v := undef) rfl (by kernel_rfl) (by kernel_rfl) (by kernel_rfl) (fun _ _ _ h => h) (Or.inr ⟨by kernel_rfl, rfl⟩) hHeld ?_
        simp only [Act.put, List.getElem_toArray, List.getElem_cons_zero, List.getElem_cons_succ, List.setIfInBounds_toArray, List.set_cons_zero, List.set_cons_succ]
        refine wpAnyH_take (i := 13) (v := undef) rfl (by kernel_rfl) (by kernel_rfl) (by kernel_rfl) (fun _ _ _ h => h) (Or.inr ⟨by kernel_rfl, rfl⟩) hHeld ?_
        simp only [Act.put, List.getElem_toArray, List.getElem_cons_zero, List.getElem_cons_succ, List.setIfInBounds_toArray, List.set_cons_zero, List.set_cons_succ]
        refine wpAnyH_take (i := 14) (v := undef) rfl (by kernel_rfl) (by kernel_rfl) (by kernel_rfl) (fun _ _ _ h => h) (Or.inr ⟨by kernel_rfl, rfl⟩) hHeld ?_
        simp only [Act.put, List.getElem_toArray, List.getElem_cons_zero, List.getElem_cons_succ, List.setIfInBounds_toArray, List.set_cons_zero, List.set_cons_succ]
        refine wpAnyH_take (i := 15) (v := undef) rfl (by kernel_rfl) (by kernel_rfl) (by kernel_rfl) (fun _ _ _ h => h) (Or.inr ⟨by kernel_rfl, rfl⟩) hHeld ?_
        simp only [Act.put, List.getElem_toArray, List.getElem_cons_zero, List.getElem_cons_succ, List.setIfInBounds_toArray, List.set_cons_zero, List.set_cons_succ]
        refine wpAnyH_take (i := 16) (v := undef) rfl (by kernel_rfl) (by kernel_rfl) (by kernel_rfl) (fun _ _ _ h => h) (Or.inr ⟨by kernel_rfl, rfl⟩) hHeld ?_
        simp only [Act.put, List.getElem_toArray, List.getElem_cons_zero, List.getElem_cons_succ, List.setIfInBounds_toArray, List.set_cons_zero, List.set_cons_succ]
        refine wpAnyH_take (i := 17) (v := ?_) rfl (by kernel_rfl) (by kernel_rfl) (by kernel_rfl) (fun _ _ _ h => h) (Or.inl ⟨by kernel_rfl, ?_⟩) hHeld ?_
        rotate_left
        · intro W hSw
          clear hSw
          go_simp <;> with_reducible rfl
        simp only [Act.put, List.getElem_toArray, List.getElem_cons_zero, List.getElem_cons_succ, List.setIfInBounds_toArray, List.set_cons_zero, List.set_cons_succ]
        refine wpAnyH_done (by kernel_rfl) ?_ _
        clear hHeld
        go_wp2
        go_ret2
        exact HF.out
      · have hne : l ≠ [] := fun e => h0 (HNE.out.1 e)
        obtain ⟨b, o, ep, li, rfl, hcc, r, hcut, hr1, hr2⟩ := hE2 hne
        have HCC := hide hcc
        have HCUT := hide hcut
        have HBB := hide HB.out.drew
        have h0I : ((i : Int) == 0) = false := by simp; omega
        have h0N : ¬ (i : Int) = 0 := by omega
        have h0L : (0 : Int) < (i : Int) := by omega
        have h0M : 0 < i := by omega
        have HT : Hid (∀ z, Below w.heap.size w z → z.ownsRow w.heap.size 5 1 (.slice (some ⟨g, 0, none⟩) (dataV l).length c) (dataV l).length (Lib.byteCells (dataV l)) → r = true → JoinR w (l.map Prod.fst) (.returned (.tuple #[.slice (some ⟨g, 0, none⟩) (dataV l).length c, .bool true])) z) := hide (fun z h1 h2 h3 => ⟨h1, .inr ⟨dataV l, _, hr1 h3, rfl, h2⟩⟩)
        have HFF : Hid (∀ z, Below w.heap.size w z → r = false → JoinR w (l.map Prod.fst) (.returned (.tuple #[.slice none 0 0, .bool false])) z) := hide (fun z h1 h3 => ⟨h1, .inl ⟨hr2 h3, rfl⟩⟩)
        clear hE1 hE2 ho HO HB HEND HTL HA2 HX HDL hlt hlt2 hi hl hcc hcut hr1 hr2 HNE hne h0 hLL
        generalize (dataV l).length = n1 at *
        go_wp2_with fail
        refine wp_region_held_drew (S := fun W' => Below w.heap.size w W') (by kernel_rfl) HBB.out (fun hHeld => ?_)
        refine wpAnyH_take (i := 0) (v := ?_) rfl (by kernel_rfl) (by kernel_rfl) (by kernel_rfl) (fun _ _ _ h => h) (Or.inl ⟨by kernel_rfl, ?_⟩) hHeld ?_
        rotate_left
        · intro W hSw
          clear hSw
          go_simp <;> with_reducible rfl
        simp only [Act.put, List.getElem_toArray, List.getElem_cons_zero, List.getElem_cons_succ, List.setIfInBounds_toArray, List.set_cons_zero, List.set_cons_succ]
        refine wpAnyH_take (i := 1) (v := ?_) rfl (by kernel_rfl) (by kernel_rfl) (by kernel_rfl) (fun _ _ _ h => h) (Or.inl ⟨by kernel_rfl, ?_⟩) hHeld ?_
        rotate_left
        · intro W hSw
          clear hSw
          go_simp <;> with_reducible rfl
        simp only [Act.put, List.getElem_toArray, List.getElem_cons_zero, List.getElem_cons_succ, List.setIfInBounds_toArray, List.set_cons_zero, List.set_cons_succ]
        refine wpAnyH_take (i := 2) (v := ?_) rfl (by kernel_rfl) (by kernel_rfl) (by kernel_rfl) (fun _ _ _ h => h) (Or.inl ⟨by kernel_rfl, ?_⟩) hHeld ?_
        rotate_left
        · intro W hSw
          clear hSw
          go_simp <;> with_reducible rfl
        simp only [Act.put, List.getElem_toArray, List.getElem_cons_zero, List.getElem_cons_succ, List.setIfInBounds_toArray, List.set_cons_zero, List.set_cons_succ]
        refine wpAnyH_take (i := 3) (v := ?_) rfl (by kernel_rfl) (by kernel_rfl) (by kernel_rfl) (fun _ _ _ h => h) (Or.inl ⟨by kernel_rfl, ?_⟩) hHeld ?_
        rotate_left
        · intro W hSw
          clear hSw
          go_simp <;> with_reducible rfl
        simp only [Act.put, List.getElem_toArray, List.getElem_cons_zero, List.getElem_cons_succ, List.setIfInBounds_toArray, List.set_cons_zero, List.set_cons_succ]
        refine wpAnyH_take (i := 4) (v := ?_) rfl (by kernel_rfl) (by kernel_rfl) (by kernel_rfl) (fun _ _ _ h => h) (Or.inl ⟨by kernel_rfl, ?_⟩) hHeld ?_
        rotate_left
        · intro W hSw
          clear hSw
          go_simp <;> with_reducible rfl
        simp only [Act.put, List.getElem_toArray, List.getElem_cons_zero, List.getElem_cons_succ, List.setIfInBounds_toArray, List.set_cons_zero, List.set_cons_succ]
        refine wpAnyH_take (i := 5) (v := ?_) rfl (by kernel_rfl) (by kernel_rfl) (by kernel_rfl) (fun _ _ _ h => h) (Or.inl ⟨by kernel_rfl, ?_⟩) hHeld ?_
        rotate_left
        · intro W hSw
          clear hSw
          go_simp <;> with_reducible rfl
        simp only [Act.put, List.getElem_toArray, List.getElem_cons_zero, List.getElem_cons_succ, List.setIfInBounds_toArray, List.set_cons_zero, List.set_cons_succ]
        refine wpAnyH_take (i := 6) (v := ?_) rfl (by kernel_rfl) (by kernel_rfl) (by kernel_rfl) (fun _ _ _ h => h) (Or.inl ⟨by kernel_rfl, ?_⟩) hHeld ?_
        rotate_left
        · intro W hSw
          clear hSw
          go_simp <;> with_reducible rfl
        simp only [Act.put, List.getElem_toArray, List.getElem_cons_zero, List.getElem_cons_succ, List.setIfInBounds_toArray, List.set_cons_zero, List.set_cons_succ]
        refine wpAnyH_take (i := 7) (v := ?_) rfl (by kernel_rfl) (by kernel_rfl) (by kernel_rfl) (fun _ _ _ h => h) (Or.inl ⟨by kernel_rfl, ?_⟩) hHeld ?_
        rotate_left
        · intro W hSw
          clear hSw
          go_simp <;> with_reducible rfl
        simp only [Act.put, List.getElem_toArray, List.getElem_cons_zero, List.getElem_cons_succ, List.setIfInBounds_toArray, List.set_cons_zero, List.set_cons_succ]
        refine wpAnyH_take (i := 8) (v := ?_) rfl (by kernel_rfl) (by kernel_rfl) (by kernel_rfl) (fun _ _ _ h => h) (Or.inl ⟨by kernel_rfl, ?_⟩) hHeld ?_
        rotate_left
        · intro W hSw
          have hc := (HCC.out W hSw).1
          clear hSw
          go_simp <;> with_reducible rfl
        simp only [Act.put, List.getElem_toArray, List.getElem_cons_zero, List.getElem_cons_succ, List.setIfInBounds_toArray, List.set_cons_zero, List.set_cons_succ]
        refine wpAnyH_take (i := 9) (v := ?_) rfl (by kernel_rfl) (by kernel_rfl) (by kernel_rfl) (fun _ _ _ h => h) (Or.inl ⟨by kernel_rfl, ?_⟩) hHeld ?_
        rotate_left
        · intro W hSw
          clear hSw
          go_simp <;> with_reducible rfl
        simp only [Act.put, List.getElem_toArray, List.getElem_cons_zero, List.getElem_cons_succ, List.setIfInBounds_toArray, List.set_cons_zero, List.set_cons_succ]
        refine wpAnyH_take (i := 10) (v := ?_) rfl (by kernel_rfl) (by kernel_rfl) (by kernel_rfl) (fun _ _ _ h => h) (Or.inl ⟨by kernel_rfl, ?_⟩) hHeld ?_
        rotate_left
        · intro W hSw
          clear hSw
          go_simp <;> with_reducible rfl
        simp only [Act.put, List.getElem_toArray, List.getElem_cons_zero, List.getElem_cons_succ, List.setIfInBounds_toArray, List.set_cons_zero, List.set_cons_succ]
        refine wpAnyH_take (i := 11) (v := ?_) rfl (by kernel_rfl) (by kernel_rfl) (by kernel_rfl) (fun _ _ _ h => h) (Or.inl ⟨by kernel_rfl, ?_⟩) hHeld ?_
        rotate_left
        · intro W hSw
          clear hSw
          go_simp <;> with_reducible rfl
        simp only [Act.put, List.getElem_toArray, List.getElem_cons_zero, List.getElem_cons_succ, List.setIfInBounds_toArray, List.set_cons_zero, List.set_cons_succ]
        refine wpAnyH_take (i := 12) (v := ?_) rfl (by kernel_rfl) (by kernel_rfl) (by kernel_rfl) (fun _ _ _ h => h) (Or.inl ⟨by kernel_rfl, ?_⟩) hHeld ?_
        rotate_left
        · intro W hSw
          have hc := (HCC.out W hSw).2
          clear hSw
          go_simp <;> with_reducible rfl
        simp only [Act.put, List.getElem_toArray, List.getElem_cons_zero, List.getElem_cons_succ, List.setIfInBounds_toArray, List.set_cons_zero, List.set_cons_succ]
        refine wpAnyH_take (i := 14) (v := ?_) rfl (by kernel_rfl) (by kernel_rfl) (by kernel_rfl) (fun _ _ _ h => h) (Or.inl ⟨by kernel_rfl, ?_⟩) hHeld ?_
        rotate_left
        · intro W hSw
          clear hSw
          go_simp <;> with_reducible rfl
        simp only [Act.put, List.getElem_toArray, List.getElem_cons_zero, List.getElem_cons_succ, List.setIfInBounds_toArray, List.set_cons_zero, List.set_cons_succ]
        refine wpAnyH_ready (rs := [13]) (by kernel_rfl) (by simp) ?_
        refine AllReadyH.cons rfl (fun K hK => ?_) AllReadyH.nil
        go_simp
        go_wp2_with (first | (go_at_call 17; refine HCUT.out.mono ?_; rintro e y ⟨va, vn, vc, rfl, HBy, HSM⟩))
        refine hK.out _ _ ?_ (fun hHeld => ?_)
        · exact HBy.out
        clear hK K
        try simp only [Act.put, List.getElem_toArray, List.getElem_cons_zero, List.getElem_cons_succ, List.setIfInBounds_toArray, List.set_cons_zero, List.set_cons_succ]
        refine wpAnyH_ready (rs := [15]) (by kernel_rfl) (by simp) ?_
        refine AllReadyH.cons rfl (fun K hK => ?_) AllReadyH.nil
        go_simp
        go_wp2_with (first | (go_at_call 15; refine HSM.out.mono ?_; rintro e z ⟨rfl, HZ1, HZ2⟩))
        refine hK.out _ _ ?_ (fun hHeld => ?_)
        · exact HZ1.out
        clear hK K
        try simp only [Act.put, List.getElem_toArray, List.getElem_cons_zero, List.getElem_cons_succ, List.setIfInBounds_toArray, List.set_cons_zero, List.set_cons_succ]
        refine wpAnyH_take (i := 16) (v := ?_) rfl (by kernel_rfl) (by kernel_rfl) (by kernel_rfl) (fun _ _ _ h => h) (Or.inl ⟨by kernel_rfl, ?_⟩) hHeld ?_
        rotate_left
        · intro W hSw
          clear hSw
          go_simp <;> with_reducible rfl
        simp only [Act.put, List.getElem_toArray, List.getElem_cons_zero, List.getElem_cons_succ, List.setIfInBounds_toArray, List.set_cons_zero, List.set_cons_succ]
        refine wpAnyH_take (i := 17) (v := ?_) rfl (by kernel_rfl) (by kernel_rfl) (by kernel_rfl) (fun _ _ _ h => h) (Or.inl ⟨by kernel_rfl, ?_⟩) hHeld ?_
        rotate_left
        · intro W hSw
          clear hSw
          go_simp <;> with_reducible rfl
        simp only [Act.put, List.getElem_toArray, List.getElem_cons_zero, List.getElem_cons_succ, List.setIfInBounds_toArray, List.set_cons_zero, List.set_cons_succ]
        refine wpAnyH_done (by kernel_rfl) ?_ _
        clear hHeld
        obtain ⟨hz1, hz2⟩ := And.intro HZ1.out HZ2.out
        cases r
        · have HF := hide (HFF.out z hz1 rfl)
          clear HFF HT HZ1 HZ2 hz1 hz2 HCUT HCC
          go_wp2
          go_ret2
          exact HF.out
        · have HF := hide (HT.out z hz1 hz2 rfl)
          clear HFF HT HZ1 HZ2 hz1 hz2 HCUT HCC
          go_wp2
          go_ret2
          exact HF.out
end Go.Proofs.Ytbodbomebmkopaa
