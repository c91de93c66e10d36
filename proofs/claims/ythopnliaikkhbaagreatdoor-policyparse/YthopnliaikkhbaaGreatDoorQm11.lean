/- What the document's line answers of a line that says a rule. -/
import Derived.Test.YthopnliaikkhbaaGreatDoorQl11
set_option linter.unusedVariables false
set_option linter.unusedSimpArgs false
set_option maxRecDepth 4000
namespace Go.Proofs.YthopnliaikkhbaaGreatDoor
open Go.RowKit

/-- A copy of a row of rules: what was there stays. -/
structure Copd (X W : World) (G : Nat) (rs : List RV) (v3 : Value) (w3 : World) : Prop where
  own : w3.ownsRow X.heap.size 53 2 v3 rs.length (ruleCells rs)
  grow : W.grownBy w3 (some G)
  bel : Below X.heap.size X w3
  form : ∃ a c, v3 = .slice a rs.length c
theorem append_nothingR (W : World) (g n cap : Nat) (a : Option Addr) (c : Nat) (h : n ≤ cap) (hm : cap ≤ maxLen) :
    (Builtin.append_ #[23, 23] 23 #[.slice (some ⟨g, 0, none⟩) n cap, .slice a 0 c]).run Tryz.prog W = .ok (.slice (some ⟨g, 0, none⟩) n cap) W := by
  simp [Builtin.append_, go_sem]
  rw [if_pos h]
  cases a <;> simp [go_sem, storeCells]
theorem copy_rules (X W : World) (G : Nat) (u : Value) (rs : List RV) (hb : Below X.heap.size X W) (hG : W.heap[G]? = some (.cells #[] 53 (0, 0))) (hX : X.heap.size ≤ G) (hU : IsR X u rs) (hl : rs.length ≤ 10000) :
    ∃ v3 w3, (Builtin.append_ #[23, 23] 23 #[.slice (some ⟨G, 0, none⟩) 0 0, u]).run Tryz.prog W = .ok v3 w3 ∧ Copd X W G rs v3 w3 := by
  have hown : W.ownsRow X.heap.size 53 2 (.slice (some ⟨G, 0, none⟩) 0 0) 0 [] := ⟨rfl, .inr ⟨G, 0, #[], rfl, hX, hG, Nat.le_refl _, by decide, rfl, rfl⟩⟩
  rcases hU.1 with ⟨rfl, a, c, rfl⟩ | ⟨b, o, cap, rfl, hc⟩
  · exact ⟨_, _, append_nothingR W G 0 0 a c (Nat.le_refl _) (by decide), hown, World.grownBy.refl _ _, hb, ⟨_, _, rfl⟩⟩
  · obtain ⟨v', w', hr, ho, hg, _, hat⟩ := run_append_own_at (P := Tryz.prog) W X.heap.size 23 23 53 Tryz.t53 (.agg #[.string ⟨#[]⟩, .slice none 0 0]) 2 40 Tryz.underlying23 (by kernel_rfl) (by kernel_rfl) (by kernel_rfl) (by kernel_rfl) (by kernel_rfl) (by omega)
      (.slice (some ⟨G, 0, none⟩) 0 0) 0 [] hown ⟨b, o, none⟩ rs.length cap (ruleCells rs) (ruleCells_len rs)
      (by
        intro j u hu
        have hj : j < rs.length * 2 := by rw [← ruleCells_len]; exact (List.getElem?_eq_some_iff.1 hu).1
        have e : (⟨b, o, none⟩ : Addr).add j = ⟨b, o + j, none⟩ := by unfold Addr.add; split <;> simp_all
        rw [e]
        have h2 := ruleCells_get rs (j / 2) (by omega)
        have hcc := hc (j / 2) (by omega)
        rcases (by omega : j = j / 2 * 2 ∨ j = j / 2 * 2 + 1) with hj2 | hj2
        · rw [hj2] at hu ⊢
          rw [h2.1] at hu
          rw [← hu]
          exact (hb.cell (cell_lt hcc.1)).trans hcc.1
        · rw [hj2] at hu ⊢
          rw [h2.2] at hu
          rw [← hu, ← Nat.add_assoc]
          exact (hb.cell (cell_lt hcc.2)).trans hcc.2) (by
        intro u hu
        obtain ⟨j, hj, rfl⟩ := List.getElem_of_mem hu
        have hj' := hj
        rw [ruleCells_len] at hj'
        have h2 := ruleCells_get rs (j / 2) (by omega)
        have hf := hU.2 (rs[j / 2]'(by omega)) (List.getElem_mem _)
        obtain ⟨fa, fc, fe⟩ := hf.form
        rcases (by omega : j = j / 2 * 2 ∨ j = j / 2 * 2 + 1) with hj2 | hj2
        · have : (ruleCells rs)[j]? = some (.string (rs[j / 2]'(by omega)).nm) := by rw [← h2.1, ← hj2]
          rw [List.getElem?_eq_getElem hj] at this
          rw [Option.some.inj this]
          rfl
        · have : (ruleCells rs)[j]? = some (rs[j / 2]'(by omega)).av := by rw [← h2.2, ← hj2]
          rw [List.getElem?_eq_getElem hj] at this
          rw [Option.some.inj this, fe]
          rfl) (by unfold maxLen; omega) (by omega) (by have := hb.size; omega)
    have ho' : w'.ownsRow X.heap.size 53 2 v' rs.length (ruleCells rs) := by
      have h := ho
      rw [Nat.zero_add, List.nil_append] at h
      exact h
    exact ⟨v', w', hr, ho', hg, hb.grown hg (by have := hb.size; omega) (fun k hk => Nat.le_trans hX (Nat.le_of_eq (by simpa [Value.ownBlock] using hk))), owns_formG ho'⟩
/-- What stands once the rule is there. -/
structure ElemF (w : World) (p : PV) (r : RU) (v5 : Value) (w5 : World) : Prop where
  b : Below (wB w p).heap.size (wB w p) w5
  form : ∃ a c, v5 = .slice a (p.rs.length + 1) c
  fin : ∀ v0 v1 v2 v3 v4, LineD w (some { p.po with ru := p.po.ru ++ [r] }) (.returned (.tuple #[.agg #[v5, p.lv, p.sv, p.dv, .int .i64 p.de], .bool true])) (set5 (w5.setCell ⟨w.heap.size, 0, none⟩ v5) (w.heap.size + 1) v0 v1 v2 v3 v4)
theorem owns_isR {w : World} {B n : Nat} {v : Value} {rs : List RV} (h : w.ownsRow B 53 2 v n (ruleCells rs)) (ha : ∀ r ∈ rs, IsW w r.av r.at_) : IsR w v rs := by
  refine ⟨?_, ha⟩
  have hn : n = rs.length := by
    have := h.1
    rw [ruleCells_len] at this
    omega
  subst hn
  rcases h.2 with ⟨rfl, h2⟩ | ⟨g, cap, cur, rfl, _⟩
  · exact .inl ⟨List.eq_nil_of_length_eq_zero h2, _, _, rfl⟩
  · refine .inr ⟨g, 0, cap, rfl, fun j hj => ?_⟩
    have h2 := ruleCells_get rs j hj
    have key : ∀ i x, (ruleCells rs)[i]? = some x → w.cell? ⟨g, 0 + i, none⟩ = some x := fun i x hx => by
      have h9 := h.cells rfl i x hx
      rw [addr_add] at h9
      rw [Nat.zero_add]
      exact h9
    refine ⟨key _ _ h2.1, ?_⟩
    rw [Nat.add_assoc]
    exact key _ _ h2.2
theorem elem_fin {w X : World} {p : PV} {y : Bs} {l : List Bs} {av : Value} (hI : IsPo w p) (hC : CapQ p) (hX : Below (wB w p).heap.size (wB w p) X) (hW : IsW X av l) (hc : ∀ a n c, av = .slice a n c → n ≤ c) {v5 : Value} {w5 : World} (h1 : w5.ownsRow X.heap.size 53 2 v5 (p.rs.length + 1) (ruleCells p.rs ++ [.string ⟨y.toArray⟩, av])) (h2 : Below X.heap.size X w5) : ElemF w p ⟨y, l⟩ v5 w5 := by
  have hb := hX.trans (h2.mono hX.size)
  obtain ⟨k0, k1, k2, k3⟩ := line_boxes w p hX
  have hr : IsR w5 v5 (p.rs ++ [⟨⟨y.toArray⟩, l, av⟩]) := by
    refine owns_isR (n := p.rs.length + 1) (by rw [ruleCells_app]; exact h1) fun r hr => ?_
    rcases List.mem_append.1 hr with hr | hr
    · exact ((hI.below k3).r.2 r hr).below h2
    · obtain rfl := List.mem_singleton.1 hr
      exact hW.below h2
  refine ⟨hb, owns_formG h1, fun v0 v1 v2 v3 v4 => ?_⟩
  have hq := line_set (w := w) (p := p) (q := { p with rs := p.rs ++ [⟨⟨y.toArray⟩, l, av⟩], rv := v5 }) hI ⟨hr, (hI.below k3).l.below h2, (hI.below k3).s.below h2, (hI.below k3).d.below h2⟩ ⟨hC.l, hC.c, hC.d, fun r hr => by
    rcases List.mem_append.1 hr with hr | hr
    · exact hC.a r hr
    · obtain rfl := List.mem_singleton.1 hr
      exact hc⟩ hb 0 v5 v0 v1 v2 v3 v4
  have e : PV.po { p with rs := p.rs ++ [⟨⟨y.toArray⟩, l, av⟩], rv := v5 } = { p.po with ru := p.po.ru ++ [⟨y, l⟩] } := by
    unfold PV.po
    simp [RV.ru]
  rw [e] at hq
  exact hq
set_option maxHeartbeats 4000000 in
theorem rline_elemS (p : PV) (s : ByteArray) (hs : s.size ≤ 4000) (w : World) (hI : IsPo w p) (hC : CapQ p) (hz : sizeP p.po ≤ 9000) (h0 : 0 < s.size) (h35 : (s[0]'h0).toNat ≠ 35) (x : Bs) (r : List Bs) (hW : wordsL s.data.toList = x :: r) (n_deep : x ≠ deepN) (hx : x = elemN) (y : Bs) (l : List Bs) (hr : r = y :: l) :
    Calls Tryz.prog 18 #[poA p, .string s] w fun e w' => LineD w (some { p.po with ru := p.po.ru ++ [⟨y, l⟩] }) e w' := by
  have hlw := words_short s.data.toList
  have hfew := words_few s.data.toList
  rw [← size_list, hW, List.length_cons] at hfew
  have hrl : r.length ≤ 10000 := by omega
  have HWD := hide (rwords_any s (by omega) (wB w p))
  rw [hW] at HWD
  have h0i : (0 : Int) < s.size := by omega
  have h35i : (((s[0]'h0).toNat : Int) == 35) = false := by rw [beq_eq_false_iff_ne]; omega
  have HBX := hide (fun y (b : Below (wB w p).heap.size (wB w p) y) => line_boxes w p b)
  have HRO := hide (fun w1 g n c hR hn hc hB => rest_own w1 w1.heap.size g n c x r hR hn hc hB hrl)
  have hzl : p.li.length ≤ 10000 ∧ p.sc.length ≤ 10000 ∧ p.dr.length ≤ 10000 ∧ p.rs.length ≤ 10000 := by
    have := attrs_len p.po.ru
    unfold sizeP at hz
    have e : p.po.ru.length = p.rs.length := List.length_map _
    exact ⟨by have : p.po.li = p.li := rfl; rw [this] at hz; omega, by have : p.po.sc = p.sc := rfl; rw [this] at hz; omega, by have : p.po.dr = p.dr := rfl; rw [this] at hz; omega, by omega⟩
  have e_deep : ((⟨x.toArray⟩ : ByteArray).toList == [100, 101, 101, 112]) = false := by rw [str_eq, str_data, beq_eq_false_iff_ne]; exact n_deep
  have e_elem : ((⟨x.toArray⟩ : ByteArray).toList == [101, 108, 101, 109, 101, 110, 116]) = true := by rw [str_eq, str_data, hx]; rfl
  clear hx n_deep
  obtain ⟨rs, li, sc, dr, de, rv, lv, sv, dv⟩ := p
  simp only [] at *
  have gr : IsR w rv rs := hI.r
  have gl : IsW w lv li := hI.l
  have gs : IsW w sv sc := hI.s
  have gd : IsW w dv dr := hI.d
  obtain ⟨ra, rc, rfl⟩ := gr.form
  obtain ⟨la, lc, rfl⟩ := gl.form
  obtain ⟨sa, sc', rfl⟩ := gs.form
  obtain ⟨da, dc, rfl⟩ := gd.form
  clear gr gl gs gd
  obtain ⟨hz1, hz2, hz3, hz4⟩ := hzl
  clear hW h35 hfew hz hlw
  generalize hql : rs.length = ql at *
  generalize hqi : li.length = qi at *
  generalize hqs : sc.length = qs at *
  generalize hqd : dr.length = qd at *
  go_enter Tryz.func18, Tryz.ntmps18
  go_wp2_with fail
  refine HWD.out.mono ?_
  rintro e w1 ⟨v, rfl, ho, b1⟩
  obtain ⟨g, c, rfl, hR, hcc⟩ := words_form ho
  have hcx : w1.cell? ⟨g, 0, none⟩ = some (.string ⟨x.toArray⟩) := hR 0 x rfl
  generalize hn : r.length + 1 = n at *
  have hn1i : (1 : Int) ≤ n := by omega
  have hn0i : (0 : Int) < n := by omega
  have hni : ((n : Int) == 0) = false := by rw [beq_eq_false_iff_ne]; omega
  have hBs := b1.size
  obtain ⟨o', c', v2, w2, hcut, hr2, ho2, b12, hv2⟩ := HRO.out w1 g n c hR rfl hcc (Nat.le_refl _)
  obtain ⟨a2, c2, rfl⟩ := owns_formG ho2
  have b2 := b1.trans (b12.mono hBs)
  have hcx2 : w2.cell? ⟨g, 0, none⟩ = some (.string ⟨x.toArray⟩) := (b12.cell (cell_lt hcx)).trans hcx
  subst hr
  have hrd : ∃ gd, a2 = some ⟨gd, 0, none⟩ ∧ RowT w2 gd 0 (y :: l) ∧ (y :: l).length ≤ c2 := by
    obtain ⟨gg, cc, e, hT, h5⟩ := words_form ho2
    injection e with e _ e2
    subst e2
    exact ⟨gg, e, hT, h5⟩
  obtain ⟨gd, rfl, hT, hc2⟩ := hrd
  have hcd : w2.cell? ⟨gd, 0, none⟩ = some (.string ⟨y.toArray⟩) := hT 0 y rfl
  have hl0i : (0 : Int) < ((y :: l).length : Nat) := by simp only [List.length_cons]; omega
  have hl0n : 0 < (y :: l).length := by simp
  have hl1i : (((y :: l).length : Nat) : Int) ≠ 0 := by omega
  have hl1 : (((y :: l).length : Int) == 0) = false := by rw [beq_eq_false_iff_ne]; exact hl1i
  obtain ⟨o2, c3, hcut2, ho2', hc3⟩ := cut_rest gd 0 (y :: l).length c2 (by simp) hc2
  have hT2 := rowT_rest hT rfl ho2'
  obtain ⟨m0, m1, mk2, mk3⟩ := HBX.out w2 b2
  obtain ⟨x0, x1, x2, x3, x4, f0, f1, f2, f3, f4⟩ := box5P m0
  obtain ⟨y0, y1, y2, y3, y4, g0, g1, g2, g3, g4⟩ := box5P m1
  simp only [zeroPV] at x0 x1 x2 x3 x4 y0 y1 y2 y3 y4
  have b2d := b2.drew
  have hIR : IsR w2.drew (.slice ra ql rc) rs := by
    have h := (hI.r.below mk3)
    exact h
  have hWl : IsW w2.drew (.slice (some ⟨gd, o2, none⟩) ((y :: l).length - 1) c3) l := .inr ⟨gd, o2, c3, rfl, fun j hj => hT2 j _ (List.getElem?_eq_getElem hj)⟩
  have HFN : Hid (∀ v5 w5, w5.ownsRow w2.heap.size 53 2 v5 (rs.length + 1) (ruleCells rs ++ [.string ⟨y.toArray⟩, .slice (some ⟨gd, o2, none⟩) ((y :: l).length - 1) c3]) → Below w2.heap.size w2.drew w5 → ElemF w ⟨rs, li, sc, dr, de, .slice ra ql rc, .slice la qi lc, .slice sa qs sc', .slice da qd dc⟩ ⟨y, l⟩ v5 w5) := hide (fun v5 w5 h1 h2 => elem_fin (p := ⟨rs, li, sc, dr, de, .slice ra ql rc, .slice la qi lc, .slice sa qs sc', .slice da qd dc⟩) hI hC b2d hWl (fun a n c e => by injection e with e1 e2 e3; omega) h1 h2)
  have HCP : Hid (∀ W G, Below w2.heap.size w2.drew W → W.heap[G]? = some (.cells #[] 53 (0, 0)) → w2.heap.size ≤ G → ∃ v3 w3, (Builtin.append_ #[23, 23] 23 #[.slice (some ⟨G, 0, none⟩) 0 0, .slice ra ql rc]).run Tryz.prog W = .ok v3 w3 ∧ Copd w2.drew W G rs v3 w3) := hide (fun W G h1 h2 h3 => copy_rules w2.drew W G _ rs h1 h2 h3 hIR (by omega))
  have HAR : Hid (∀ W N v3, W.ownsRow w2.heap.size 53 2 v3 rs.length (ruleCells rs) → Below w2.heap.size w2.drew W → W.heap[N]? = some (.cells #[.string ⟨y.toArray⟩, .slice (some ⟨gd, o2, none⟩) ((y :: l).length - 1) c3] 53 (0, 0)) → ∃ v5 w5, (Builtin.append_ #[23, 23] 23 #[v3, .slice (some ⟨N, 0, none⟩) 1 1]).run Tryz.prog W = .ok v5 w5 ∧ ElemF w ⟨rs, li, sc, dr, de, .slice ra ql rc, .slice la qi lc, .slice sa qs sc', .slice da qd dc⟩ ⟨y, l⟩ v5 w5) := hide (fun W N v3 h1 h2 h3 => by
    obtain ⟨v5, w5, e1, e2, e3, _⟩ := append_rule W w2.heap.size rs.length v3 (ruleCells rs) ⟨y.toArray⟩ _ _ _ N h3 h1 (by omega) h2.size
    exact ⟨v5, w5, e1, HFN.out v5 w5 e2 (h2.grown e3 h2.size (owns_blk h1))⟩)
  have x0d : w2.drew.cell? ⟨w.heap.size, 0, none⟩ = some (.slice ra ql rc) := x0
  have HBC : Hid (∀ W, Below w2.heap.size w2 W → W.cell? ⟨w.heap.size, 0, none⟩ = some (.slice ra ql rc) ∧ W.cell? ⟨gd, 0, none⟩ = some (.string ⟨y.toArray⟩)) := hide (fun W b => ⟨(b.cell (cell_lt x0)).trans x0, (b.cell (cell_lt hcd)).trans hcd⟩)
  have ba1 := below_alloc w2 (.cells #[] 53)
  have ba2 := below_alloc w2 (.cells #[.string ⟨y.toArray⟩, .slice (some ⟨gd, o2, none⟩) ((y :: l).length - 1) c3] 53)
  have ba3 := ba1.trans ((below_alloc (w2.alloc (.cells #[] 53)) (.cells #[.string ⟨y.toArray⟩, .slice (some ⟨gd, o2, none⟩) ((y :: l).length - 1) c3] 53)).mono ba1.size)
  have ba4 := ba2.trans ((below_alloc (w2.alloc (.cells #[.string ⟨y.toArray⟩, .slice (some ⟨gd, o2, none⟩) ((y :: l).length - 1) c3] 53)) (.cells #[] 53)).mono ba2.size)
  obtain ⟨u1, u2⟩ := HBC.out _ ba1.drew
  obtain ⟨u3, u4⟩ := HBC.out _ ba2.drew
  obtain ⟨u5, u6⟩ := HBC.out _ ba3.drew
  obtain ⟨u7, u8⟩ := HBC.out _ ba4.drew
  clear ba1 ba2 ba3 ba4
  have hcdd : w2.drew.cell? ⟨gd, 0, none⟩ = some (.string ⟨y.toArray⟩) := hcd
  generalize hyl : (y :: l).length = yl at *
  generalize (⟨x.toArray⟩ : ByteArray) = X at *
  generalize (⟨y.toArray⟩ : ByteArray) = Y at *
  clear y0 y1 y2 y3 y4 g0 g1 g2 g3 g4
  have BDD : Hid (Below w2.heap.size w2 w2.drew) := hide (Below.refl _ _).drew
  have s1 : (w2.alloc (.cells #[] 53)).heap.size = w2.heap.size + 1 := by simp
  have s2 : (w2.alloc (.cells #[.string Y, .slice (some ⟨gd, o2, none⟩) (yl - 1) c3] 53)).heap.size = w2.heap.size + 1 := by simp
  have s3 : ((w2.alloc (.cells #[] 53)).alloc (.cells #[.string Y, .slice (some ⟨gd, o2, none⟩) (yl - 1) c3] 53)).heap.size = w2.heap.size + 2 := by simp
  have s4 : ((w2.alloc (.cells #[.string Y, .slice (some ⟨gd, o2, none⟩) (yl - 1) c3] 53)).alloc (.cells #[] 53)).heap.size = w2.heap.size + 2 := by simp
  have ba1 := below_alloc w2 (.cells #[] 53)
  have ba2 := below_alloc w2 (.cells #[.string Y, .slice (some ⟨gd, o2, none⟩) (yl - 1) c3] 53)
  have ba3 := ba1.trans ((below_alloc (w2.alloc (.cells #[] 53)) (.cells #[.string Y, .slice (some ⟨gd, o2, none⟩) (yl - 1) c3] 53)).mono ba1.size)
  have ba4 := ba2.trans ((below_alloc (w2.alloc (.cells #[.string Y, .slice (some ⟨gd, o2, none⟩) (yl - 1) c3] 53)) (.cells #[] 53)).mono ba2.size)
  have hk1 : ((w2.alloc (.cells #[] 53)).alloc (.cells #[.string Y, .slice (some ⟨gd, o2, none⟩) (yl - 1) c3] 53)).heap[w2.heap.size]? = some (.cells #[] 53 (0, 0)) := ((below_alloc (w2.alloc (.cells #[] 53)) (.cells #[.string Y, .slice (some ⟨gd, o2, none⟩) (yl - 1) c3] 53)).block _ (by omega)).trans (heap_alloc_new w2 _)
  have hk2 : ((w2.alloc (.cells #[] 53)).alloc (.cells #[.string Y, .slice (some ⟨gd, o2, none⟩) (yl - 1) c3] 53)).heap[w2.heap.size + 1]? = some (.cells #[.string Y, .slice (some ⟨gd, o2, none⟩) (yl - 1) c3] 53 (0, 0)) := by
    rw [← s1]
    exact heap_alloc_new _ _
  have hk3 : ((w2.alloc (.cells #[.string Y, .slice (some ⟨gd, o2, none⟩) (yl - 1) c3] 53)).alloc (.cells #[] 53)).heap[w2.heap.size]? = some (.cells #[.string Y, .slice (some ⟨gd, o2, none⟩) (yl - 1) c3] 53 (0, 0)) := ((below_alloc (w2.alloc (.cells #[.string Y, .slice (some ⟨gd, o2, none⟩) (yl - 1) c3] 53)) (.cells #[] 53)).block _ (by omega)).trans (heap_alloc_new w2 _)
  have hk4 : ((w2.alloc (.cells #[.string Y, .slice (some ⟨gd, o2, none⟩) (yl - 1) c3] 53)).alloc (.cells #[] 53)).heap[w2.heap.size + 1]? = some (.cells #[] 53 (0, 0)) := by
    rw [← s2]
    exact heap_alloc_new _ _
  have DR : ∀ W, Below w2.heap.size w2 W → Below w2.heap.size w2.drew W.drew := fun W b => ⟨b.os, b.tape, b.output, b.size, b.block⟩
  have CA := hide (HCP.out (w2.alloc (.cells #[] 53)).drew w2.heap.size (DR _ ba1) (heap_alloc_new w2 _) (Nat.le_refl _))
  have CB := hide (HCP.out ((w2.alloc (.cells #[] 53)).alloc (.cells #[.string Y, .slice (some ⟨gd, o2, none⟩) (yl - 1) c3] 53)).drew w2.heap.size (DR _ ba3) hk1 (Nat.le_refl _))
  have CC := hide (HCP.out ((w2.alloc (.cells #[.string Y, .slice (some ⟨gd, o2, none⟩) (yl - 1) c3] 53)).alloc (.cells #[] 53)).drew (w2.heap.size + 1) (DR _ ba4) hk4 (Nat.le_succ _))
  have HNB : Hid (∀ v3 w3, Copd w2.drew ((w2.alloc (.cells #[] 53)).alloc (.cells #[.string Y, .slice (some ⟨gd, o2, none⟩) (yl - 1) c3] 53)).drew w2.heap.size rs v3 w3 → w3.heap[w2.heap.size + 1]? = some (.cells #[.string Y, .slice (some ⟨gd, o2, none⟩) (yl - 1) c3] 53 (0, 0))) := hide (fun v3 w3 h => (h.grow.block (w2.heap.size + 1) (by show _ < ((w2.alloc (.cells #[] 53)).alloc (.cells #[.string Y, .slice (some ⟨gd, o2, none⟩) (yl - 1) c3] 53)).heap.size; omega) (by simp)).trans hk2)
  have HNC : Hid (∀ v3 w3, Copd w2.drew ((w2.alloc (.cells #[.string Y, .slice (some ⟨gd, o2, none⟩) (yl - 1) c3] 53)).alloc (.cells #[] 53)).drew (w2.heap.size + 1) rs v3 w3 → w3.heap[w2.heap.size]? = some (.cells #[.string Y, .slice (some ⟨gd, o2, none⟩) (yl - 1) c3] 53 (0, 0))) := hide (fun v3 w3 h => (h.grow.block w2.heap.size (by show _ < ((w2.alloc (.cells #[.string Y, .slice (some ⟨gd, o2, none⟩) (yl - 1) c3] 53)).alloc (.cells #[] 53)).heap.size; omega) (by simp)).trans hk3)
  have HT1 : Hid (∀ W G v3 w3, Copd w2.drew W G rs v3 w3 → w3.cell? ⟨w.heap.size, 0, none⟩ = some (.slice ra ql rc)) := hide (fun W G v3 w3 h3 => (HBC.out _ (BDD.out.trans h3.bel)).1)
  have HT2 : Hid (∀ W G v3 w3, Copd w2.drew W G rs v3 w3 → w3.cell? ⟨gd, 0, none⟩ = some (.string Y)) := hide (fun W G v3 w3 h3 => (HBC.out _ (BDD.out.trans h3.bel)).2)
  have ARA : Hid (∀ v3 w3, Copd w2.drew (w2.alloc (.cells #[] 53)).drew (w2.heap.size) rs v3 w3 → ∃ v5 w5, (Builtin.append_ #[23, 23] 23 #[v3, .slice (some ⟨w3.heap.size, 0, none⟩) 1 1]).run Tryz.prog (w3.alloc (.cells #[.string Y, .slice (some ⟨gd, o2, none⟩) (yl - 1) c3] 53)) = .ok v5 w5 ∧ ElemF w ⟨rs, li, sc, dr, de, .slice ra ql rc, .slice la qi lc, .slice sa qs sc', .slice da qd dc⟩ ⟨y, l⟩ v5 w5) := hide (fun v3 w3 h3 => HAR.out (w3.alloc (.cells #[.string Y, .slice (some ⟨gd, o2, none⟩) (yl - 1) c3] 53)) w3.heap.size _ (owns_alloc h3.own _) (h3.bel.trans ((below_alloc w3 (.cells #[.string Y, .slice (some ⟨gd, o2, none⟩) (yl - 1) c3] 53)).mono h3.bel.size)) (heap_alloc_new w3 _))
  have ARB : Hid (∀ v3 w3, Copd w2.drew ((w2.alloc (.cells #[] 53)).alloc (.cells #[.string Y, .slice (some ⟨gd, o2, none⟩) (yl - 1) c3] 53)).drew (w2.heap.size) rs v3 w3 → ∃ v5 w5, (Builtin.append_ #[23, 23] 23 #[v3, .slice (some ⟨w2.heap.size + 1, 0, none⟩) 1 1]).run Tryz.prog (w3) = .ok v5 w5 ∧ ElemF w ⟨rs, li, sc, dr, de, .slice ra ql rc, .slice la qi lc, .slice sa qs sc', .slice da qd dc⟩ ⟨y, l⟩ v5 w5) := hide (fun v3 w3 h3 => HAR.out w3 (w2.heap.size + 1) _ h3.own h3.bel (HNB.out _ _ h3))
  have ARC : Hid (∀ v3 w3, Copd w2.drew ((w2.alloc (.cells #[.string Y, .slice (some ⟨gd, o2, none⟩) (yl - 1) c3] 53)).alloc (.cells #[] 53)).drew (w2.heap.size + 1) rs v3 w3 → ∃ v5 w5, (Builtin.append_ #[23, 23] 23 #[v3, .slice (some ⟨w2.heap.size, 0, none⟩) 1 1]).run Tryz.prog (w3) = .ok v5 w5 ∧ ElemF w ⟨rs, li, sc, dr, de, .slice ra ql rc, .slice la qi lc, .slice sa qs sc', .slice da qd dc⟩ ⟨y, l⟩ v5 w5) := hide (fun v3 w3 h3 => HAR.out w3 w2.heap.size _ h3.own h3.bel (HNC.out _ _ h3))
  clear hk1 hk2 hk3 hk4 DR s1 s2 s3 s4 ba1 ba2 ba3 ba4
  clear ho b1 hR hcc ho2 b12 hv2 m0 m1 mk2 mk3 HRO HWD hrl hz1 hz2 hz3 hBs hT hT2
  go_wp2_with (first | (at_builtin; refine Lib.wpList_append_run _ rfl (.tmp 19) (.tmp 21) _ _ rfl _ _ rfl rfl _ _ hr2 ?_) | fail)
  go_region_law (first | (with_reducible refine step_append_ex rfl (.tmp 51) (.tmp 53) 23 rfl (.slice (some ⟨w2.heap.size, 0, none⟩) 0 0) (.slice ra ql rc) rfl rfl _ CA.out ?_; rintro v3 w3 h3; obtain ⟨a3, d3, e3⟩ := h3.form; rw [hql] at e3; subst e3; have t1 := HT1.out _ _ _ _ h3; have t2 := HT2.out _ _ _ _ h3; have AR := hide (ARA.out _ _ h3)) | (with_reducible refine step_append_ex rfl (.tmp 51) (.tmp 53) 23 rfl (.slice (some ⟨w2.heap.size, 0, none⟩) 0 0) (.slice ra ql rc) rfl rfl _ CB.out ?_; rintro v3 w3 h3; obtain ⟨a3, d3, e3⟩ := h3.form; rw [hql] at e3; subst e3; have t1 := HT1.out _ _ _ _ h3; have t2 := HT2.out _ _ _ _ h3; have AR := hide (ARB.out _ _ h3)) | (with_reducible refine step_append_ex rfl (.tmp 51) (.tmp 53) 23 rfl (.slice (some ⟨w2.heap.size + 1, 0, none⟩) 0 0) (.slice ra ql rc) rfl rfl _ CC.out ?_; rintro v3 w3 h3; obtain ⟨a3, d3, e3⟩ := h3.form; rw [hql] at e3; subst e3; have t1 := HT1.out _ _ _ _ h3; have t2 := HT2.out _ _ _ _ h3; have AR := hide (ARC.out _ _ h3)) | (with_reducible refine step_append_ex rfl (.tmp 54) (.tmp 61) 23 rfl (.slice a3 ql d3) (.slice (some ⟨w3.heap.size, 0, none⟩) 1 1) rfl rfl _ AR.out ?_; rintro v5 w5 h5; obtain ⟨a5, d5, e5⟩ := h5.form; simp only [hql] at e5; subst e5; obtain ⟨m0, m1, mk2, mk3⟩ := HBX.out w5 h5.b; obtain ⟨z0, z1, z2, z3, z4, i0, i1, i2, i3, i4⟩ := box5P m0; obtain ⟨y0, y1, y2, y3, y4, j0, j1, j2, j3, j4⟩ := box5P m1; simp only [zeroPV] at z0 z1 z2 z3 z4 y0 y1 y2 y3 y4; have ZZ := hide h5.fin) | (with_reducible refine step_append_ex rfl (.tmp 54) (.tmp 61) 23 rfl (.slice a3 ql d3) (.slice (some ⟨w2.heap.size + 1, 0, none⟩) 1 1) rfl rfl _ AR.out ?_; rintro v5 w5 h5; obtain ⟨a5, d5, e5⟩ := h5.form; simp only [hql] at e5; subst e5; obtain ⟨m0, m1, mk2, mk3⟩ := HBX.out w5 h5.b; obtain ⟨z0, z1, z2, z3, z4, i0, i1, i2, i3, i4⟩ := box5P m0; obtain ⟨y0, y1, y2, y3, y4, j0, j1, j2, j3, j4⟩ := box5P m1; simp only [zeroPV] at z0 z1 z2 z3 z4 y0 y1 y2 y3 y4; have ZZ := hide h5.fin) | (with_reducible refine step_append_ex rfl (.tmp 54) (.tmp 61) 23 rfl (.slice a3 ql d3) (.slice (some ⟨w2.heap.size, 0, none⟩) 1 1) rfl rfl _ AR.out ?_; rintro v5 w5 h5; obtain ⟨a5, d5, e5⟩ := h5.form; simp only [hql] at e5; subst e5; obtain ⟨m0, m1, mk2, mk3⟩ := HBX.out w5 h5.b; obtain ⟨z0, z1, z2, z3, z4, i0, i1, i2, i3, i4⟩ := box5P m0; obtain ⟨y0, y1, y2, y3, y4, j0, j1, j2, j3, j4⟩ := box5P m1; simp only [zeroPV] at z0 z1 z2 z3 z4 y0 y1 y2 y3 y4; have ZZ := hide h5.fin))
  all_goals clear HT1 HT2 ARA ARB ARC HNB HNC CA CB CC HAR HCP HFN HBC BDD hI hC hWl hIR
  all_goals go_wp2
  all_goals refine bodyPost_ret (v := .tuple #[.agg #[.slice a5 (ql + 1) d5, .slice la qi lc, .slice sa qs sc', .slice da qd dc, .int .i64 de], .bool true]) ?_ rfl (ZZ.out _ _ _ _ _)
  all_goals simp [results, Tryz.results18, go_sem, y0, y1, y2, y3, y4]
end Go.Proofs.YthopnliaikkhbaaGreatDoor
