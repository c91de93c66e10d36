/- What the document's line answers. -/
import Derived.Test.YthopnliaikkhbaaGreatDoorQn11
import Derived.Lib.AppendZeros
set_option linter.unusedVariables false
set_option linter.unusedSimpArgs false
set_option maxRecDepth 4000
namespace Go.Proofs.YthopnliaikkhbaaGreatDoor
open Go.RowKit

/-- No list is longer than there is room. -/
structure CapQ (q : PV) : Prop where
  l : ∀ a n c, q.lv = .slice a n c → n ≤ c
  c : ∀ a n c, q.sv = .slice a n c → n ≤ c
  d : ∀ a n c, q.dv = .slice a n c → n ≤ c
  a : ∀ r ∈ q.rs, ∀ a n c, r.av = .slice a n c → n ≤ c
def LineD (w : World) (R : Option PO) (e : Ending) (w' : World) : Prop := ∃ (q : PV) (b : Bool), e = .returned (.tuple #[poA q, .bool b]) ∧ (match R with
  | none => b = false
  | some p' => b = true ∧ q.po = p') ∧ IsPo w' q ∧ CapQ q ∧ Below w.heap.size w w'
abbrev wB (w : World) (p : PV) : World := (poW w p).alloc (.cells (poC zeroPV) 26)
theorem line_boxes (w : World) (p : PV) {x : World} (h : Below (wB w p).heap.size (wB w p) x) : x.heap[w.heap.size]? = some (.cells (poC p) 26 (0, 0)) ∧ x.heap[w.heap.size + 1]? = some (.cells (poC zeroPV) 26 (0, 0)) ∧ Below (poW w p).heap.size (poW w p) x ∧ Below w.heap.size w x := by
  have h1 := below_alloc w (.cells (poC p) 26)
  have h2 := below_alloc (poW w p) (.cells (poC zeroPV) 26)
  have s1 : (poW w p).heap.size = w.heap.size + 1 := by simp
  have h3 : Below (poW w p).heap.size (poW w p) x := h2.trans (h.mono h2.size)
  refine ⟨?_, ?_, h3, h1.trans (h3.mono h1.size)⟩
  · exact (h3.block w.heap.size (by omega)).trans (heap_alloc_new w _)
  · rw [← s1]
    exact (h.block (poW w p).heap.size (by simp)).trans (heap_alloc_new (poW w p) _)
theorem box5P {w : World} {A : Nat} {p : PV} (h : w.heap[A]? = some (.cells (poC p) 26 (0, 0))) : w.cell? ⟨A, 0, none⟩ = some p.rv ∧ w.cell? ⟨A, 1, none⟩ = some p.lv ∧ w.cell? ⟨A, 2, none⟩ = some p.sv ∧ w.cell? ⟨A, 3, none⟩ = some p.dv ∧ w.cell? ⟨A, 4, none⟩ = some (.int .i64 p.de) ∧ w.frozen? ⟨A, 0, none⟩ = false ∧ w.frozen? ⟨A, 1, none⟩ = false ∧ w.frozen? ⟨A, 2, none⟩ = false ∧ w.frozen? ⟨A, 3, none⟩ = false ∧ w.frozen? ⟨A, 4, none⟩ = false := by
  refine ⟨?_, ?_, ?_, ?_, ?_, ?_, ?_, ?_, ?_, ?_⟩ <;> simp [World.cell?, World.frozen?, h]
theorem noStr_po {w W : World} {A : Nat} {p : PV} (hI : IsPo W p) (h : w.heap[A]? = some (.cells (poC p) 26 (0, 0))) : NoStr w A := by
  obtain ⟨a0, d0, e0⟩ := hI.r.form
  obtain ⟨a1, d1, e1⟩ := hI.l.form
  obtain ⟨a2, d2, e2⟩ := hI.s.form
  obtain ⟨a3, d3, e3⟩ := hI.d.form
  intro j s e
  simp only [World.cell?, h] at e
  match j with
  | 0 => simp [poC, e0] at e
  | 1 => simp [poC, e1] at e
  | 2 => simp [poC, e2] at e
  | 3 => simp [poC, e3] at e
  | 4 => simp [poC] at e
  | j + 5 => simp [poC] at e
/-- Nothing was changed. -/
theorem line_same {w x : World} {p : PV} (hI : IsPo w p) (hC : CapQ p) (hx : Below (wB w p).heap.size (wB w p) x) (R : Option PO) (b : Bool) (hR : match R with
  | none => b = false
  | some p' => b = true ∧ p.po = p') (v0 v1 v2 v3 v4 : Value) : LineD w R (.returned (.tuple #[poA p, .bool b])) (set5 x (w.heap.size + 1) v0 v1 v2 v3 v4) := by
  obtain ⟨k0, k1, k2, k3⟩ := line_boxes w p hx
  have s1 : (poW w p).heap.size = w.heap.size + 1 := by simp
  have hb := below_set5 k2 v0 v1 v2 v3 v4
  rw [s1] at hb
  have h1 := below_alloc w (.cells (poC p) 26)
  exact ⟨p, b, rfl, hR, (hI.below k3).but (noStr_zero k1) (set5_other x _ v0 v1 v2 v3 v4), hC, h1.trans (hb.mono (by omega))⟩
/-- One of the policy's values was. -/
theorem line_set {w x : World} {p q : PV} (hI : IsPo w p) (hQ : IsPo x q) (hC : CapQ q) (hx : Below (wB w p).heap.size (wB w p) x) (i : Nat) (v : Value) (v0 v1 v2 v3 v4 : Value) : LineD w (some q.po) (.returned (.tuple #[poA q, .bool true])) (set5 (x.setCell ⟨w.heap.size, i, none⟩ v) (w.heap.size + 1) v0 v1 v2 v3 v4) := by
  obtain ⟨k0, k1, k2, k3⟩ := line_boxes w p hx
  have s1 : (poW w p).heap.size = w.heap.size + 1 := by simp
  have hk : ∀ k, k ≠ w.heap.size → (x.setCell ⟨w.heap.size, i, none⟩ v).heap[k]? = x.heap[k]? := fun k hk => Below.heap_setCell _ _ _ _ hk
  have g1 : (x.setCell ⟨w.heap.size, i, none⟩ v).heap[w.heap.size + 1]? = some (.cells (poC zeroPV) 26 (0, 0)) := (hk _ (by omega)).trans k1
  have b1 : Below w.heap.size w (x.setCell ⟨w.heap.size, i, none⟩ v) := k3.setCell (p := ⟨w.heap.size, i, none⟩) (Nat.le_refl _) _
  have b2 : Below w.heap.size w (set5 (x.setCell ⟨w.heap.size, i, none⟩ v) (w.heap.size + 1) v0 v1 v2 v3 v4) :=
    ((((b1.setCell (p := ⟨w.heap.size + 1, 0, none⟩) (Nat.le_succ _) _).setCell (p := ⟨w.heap.size + 1, 1, none⟩) (Nat.le_succ _) _).setCell (p := ⟨w.heap.size + 1, 2, none⟩) (Nat.le_succ _) _).setCell (p := ⟨w.heap.size + 1, 3, none⟩) (Nat.le_succ _) _).setCell (p := ⟨w.heap.size + 1, 4, none⟩) (Nat.le_succ _) _
  exact ⟨q, true, rfl, ⟨rfl, rfl⟩, (hQ.but (noStr_po hI k0) hk).but (noStr_zero g1) (set5_other _ _ v0 v1 v2 v3 v4), hC, b2⟩
theorem words_form {w : World} {B : Nat} {v : Value} {x : Bs} {r : List Bs} (h : w.ownsRow B 9 1 v (x :: r).length (textsV (x :: r))) : ∃ g c, v = .slice (some ⟨g, 0, none⟩) (r.length + 1) c ∧ RowT w g 0 (x :: r) ∧ r.length + 1 ≤ c := by
  have h0 := h
  rcases h.2 with ⟨_, hn⟩ | ⟨g, cap, cur, rfl, h3, h4, h5, _⟩
  · simp at hn
  · exact ⟨g, cap, rfl, (owns_rowT h0).1, h5⟩
theorem own_none (w : World) (B : Nat) (hB : B ≤ w.heap.size) : (w.alloc (.cells #[] 9)).ownsRow B 9 1 (.slice (some ⟨w.heap.size, 0, none⟩) 0 0) 0 (textsV []) := ⟨rfl, .inr ⟨w.heap.size, 0, #[], rfl, hB, by show (Array.push w.heap _)[w.heap.size]? = _; simp, Nat.le_refl _, by decide, rfl, rfl⟩⟩
theorem not_nil {w : World} {B n : Nat} {v : Value} {l : List Bs} (h : w.ownsRow B 9 1 v n (textsV l)) (hl : 0 < l.length) : v ≠ .slice none 0 0 := by
  intro e
  subst e
  rcases h.2 with ⟨_, hn⟩ | ⟨g, cap, cur, e, _⟩
  · have := h.1
    subst hn
    rw [textsV_len] at this
    omega
  · cases e
/-- The words behind the first, copied. -/
theorem rest_own (w : World) (B g n c : Nat) (x : Bs) (r : List Bs) (hR : RowT w g 0 (x :: r)) (hn : n = r.length + 1) (hc : n ≤ c) (hB : B ≤ w.heap.size) (hl : r.length ≤ 10000) :
    ∃ o' c' v2 w2, (∀ W, (Instr.slice 24 (.slice (some ⟨g, 0, none⟩) n c) (some (.int .i64 1)) none none).run Tryz.prog W = .ok (.slice (some ⟨g, o', none⟩) (n - 1) c') W) ∧ (Builtin.append_ #[24, 24] 24 #[.slice (some ⟨w.heap.size, 0, none⟩) 0 0, .slice (some ⟨g, o', none⟩) (n - 1) c']).run Tryz.prog (w.alloc (.cells #[] 9)) = .ok v2 w2 ∧ w2.ownsRow B 9 1 v2 r.length (textsV r) ∧ Below B w w2 ∧ v2 ≠ .slice none 0 0 := by
  obtain ⟨o', c', h1, h2, h3⟩ := cut_rest g 0 n c (by omega) hc
  have hb := below_alloc w (.cells #[] 9)
  have hR2 := (rowT_rest hR (by rw [hn]; rfl) h2).below hb
  have hW : IsW (w.alloc (.cells #[] 9)) (.slice (some ⟨g, o', none⟩) (n - 1) c') r := .inr ⟨g, o', c', by rw [hn]; rfl, fun j hj => hR2 j _ (List.getElem?_eq_getElem hj)⟩
  obtain ⟨v2, w2, e1, e2, e3⟩ := append_isW (w.alloc (.cells #[] 9)) B 0 _ (textsV []) _ r (own_none w B hB) (by simp) hW (by omega) (by omega) (by have := hb.size; omega)
  have e2' : w2.ownsRow B 9 1 v2 r.length (textsV r) := by
    have h := e2
    rw [Nat.zero_add] at h
    exact h
  refine ⟨o', c', v2, w2, h1, e1, e2', (hb.mono hB).trans e3, ?_⟩
  cases r with
  | nil =>
    have hn1 : n - 1 = 0 := by rw [hn]; rfl
    rw [hn1, append_nothing _ w.heap.size 0 0 _ _ (Nat.le_refl _) (by decide)] at e1
    injection e1 with e1
    rw [← e1]
    simp
  | cons y l => exact not_nil e2' (by simp)
/-- A list copied, and more behind it. -/
theorem more_own (w : World) (u v2 : Value) (l r : List Bs) (hU : IsW w u l) (hV : IsW w v2 r) (h1 : l.length ≤ 10000) (h2 : r.length ≤ 10000) :
    ∃ v3 w3 v4 w4, (Builtin.append_ #[24, 24] 24 #[.slice (some ⟨w.heap.size, 0, none⟩) 0 0, u]).run Tryz.prog (w.alloc (.cells #[] 9)) = .ok v3 w3 ∧ (Builtin.append_ #[24, 24] 24 #[v3, v2]).run Tryz.prog w3 = .ok v4 w4 ∧ Below w.heap.size w w4 ∧ IsW w4 v4 (l ++ r) ∧ (∀ a n c, v4 = .slice a n c → n ≤ c) ∧ (∃ a c, v3 = .slice a l.length c) ∧ (∃ a c, v4 = .slice a (l.length + r.length) c) := by
  have hb := below_alloc w (.cells #[] 9)
  obtain ⟨v3, w3, e1, e2, e3⟩ := append_isW (w.alloc (.cells #[] 9)) w.heap.size 0 _ (textsV []) u l (own_none w _ (Nat.le_refl _)) (by simp) (hU.below hb) (by omega) (by omega) hb.size
  have e2' : w3.ownsRow w.heap.size 9 1 v3 l.length (textsV l) := by
    have h := e2
    rw [Nat.zero_add] at h
    exact h
  have b3 := hb.trans e3
  have hne : v3 ≠ .slice none 0 0 := by
    cases l with
    | nil =>
      obtain ⟨a, c, rfl⟩ := hU.form
      rw [show ([] : List Bs).length = 0 from rfl, append_nothing _ w.heap.size 0 0 _ _ (Nat.le_refl _) (by decide)] at e1
      injection e1 with e1
      rw [← e1]
      simp
    | cons y l => exact not_nil e2' (by simp)
  obtain ⟨v4, w4, f1, f2, f3⟩ := append_isW w3 w.heap.size l.length v3 (textsV l) v2 r e2' hne (hV.below b3) (by omega) (by omega) b3.size
  have f2' : w4.ownsRow w.heap.size 9 1 v4 (l ++ r).length (textsV (l ++ r)) := by
    rw [textsV_app, List.length_append]
    exact f2
  obtain ⟨g1, g2⟩ := owns_isW f2'
  exact ⟨v3, w3, v4, w4, e1, f1, b3.trans f3, g1, g2, owns_formG e2', owns_formG f2⟩
set_option maxHeartbeats 4000000 in
theorem rline_none (p : PV) (s : ByteArray) (hs : s.size ≤ 4000) (w : World) (hI : IsPo w p) (hC : CapQ p) (hz : sizeP p.po ≤ 9000) (hW : wordsL s.data.toList = []) :
    Calls Tryz.prog 18 #[poA p, .string s] w fun e w' => LineD w (some p.po) e w' := by
  have HWD := hide (rwords_any s (by omega) (wB w p))
  rw [hW] at HWD
  have HBX := hide (fun y (b : Below (wB w p).heap.size (wB w p) y) => line_boxes w p b)
  obtain ⟨rs, li, sc, dr, de, rv, lv, sv, dv⟩ := p
  try simp only [] at *
  have gr : IsR w rv rs := hI.r
  have gl : IsW w lv li := hI.l
  have gs : IsW w sv sc := hI.s
  have gd : IsW w dv dr := hI.d
  obtain ⟨ra, rc, rfl⟩ := gr.form
  obtain ⟨la, lc, rfl⟩ := gl.form
  obtain ⟨sa, sc', rfl⟩ := gs.form
  obtain ⟨da, dc, rfl⟩ := gd.form
  clear gr gl gs gd
  clear hW hz
  generalize hql : rs.length = ql at *
  generalize hqi : li.length = qi at *
  generalize hqs : sc.length = qs at *
  generalize hqd : dr.length = qd at *
  go_enter Tryz.func18, Tryz.ntmps18
  go_wp2_with fail
  refine HWD.out.mono ?_
  rintro e w1 ⟨v, rfl, ho, b1⟩
  obtain ⟨va, vc, rfl⟩ := owns_formG ho
  simp only [List.length_nil]
  obtain ⟨m0, m1, mk2, mk3⟩ := HBX.out w1 b1
  obtain ⟨x0, x1, x2, x3, x4, f0, f1, f2, f3, f4⟩ := box5P m0
  obtain ⟨y0, y1, y2, y3, y4, g0, g1, g2, g3, g4⟩ := box5P m1
  simp only [zeroPV] at x0 x1 x2 x3 x4 y0 y1 y2 y3 y4
  have ZZ := hide (line_same (w := w) (p := ⟨rs, li, sc, dr, de, .slice ra ql rc, .slice la qi lc, .slice sa qs sc', .slice da qd dc⟩) hI hC b1 (some (PV.po ⟨rs, li, sc, dr, de, .slice ra ql rc, .slice la qi lc, .slice sa qs sc', .slice da qd dc⟩)) true (by first | rfl | exact ⟨rfl, rfl⟩))
  clear ho b1 m0 m1 mk2 mk3 HWD HBX hI hC hql hqi hqs hqd
  go_wp2
  refine bodyPost_ret (v := .tuple #[.agg #[.slice ra ql rc, .slice la qi lc, .slice sa qs sc', .slice da qd dc, .int .i64 de], .bool true]) ?_ rfl (ZZ.out _ _ _ _ _)
  simp [results, Tryz.results18, go_sem, y0, y1, y2, y3, y4]
set_option maxHeartbeats 4000000 in
theorem rline_note (p : PV) (s : ByteArray) (hs : s.size ≤ 4000) (w : World) (hI : IsPo w p) (hC : CapQ p) (hz : sizeP p.po ≤ 9000) (h0 : 0 < s.size) (h35 : (s[0]'h0).toNat = 35) (x : Bs) (r : List Bs) (hW : wordsL s.data.toList = x :: r) :
    Calls Tryz.prog 18 #[poA p, .string s] w fun e w' => LineD w (some p.po) e w' := by
  have HWD := hide (rwords_any s (by omega) (wB w p))
  rw [hW] at HWD
  have HBX := hide (fun y (b : Below (wB w p).heap.size (wB w p) y) => line_boxes w p b)
  have h0i : (0 : Int) < s.size := by omega
  have h35i : (((s[0]'h0).toNat : Int) == 35) = true := by rw [beq_iff_eq]; omega
  obtain ⟨rs, li, sc, dr, de, rv, lv, sv, dv⟩ := p
  try simp only [] at *
  have gr : IsR w rv rs := hI.r
  have gl : IsW w lv li := hI.l
  have gs : IsW w sv sc := hI.s
  have gd : IsW w dv dr := hI.d
  obtain ⟨ra, rc, rfl⟩ := gr.form
  obtain ⟨la, lc, rfl⟩ := gl.form
  obtain ⟨sa, sc', rfl⟩ := gs.form
  obtain ⟨da, dc, rfl⟩ := gd.form
  clear gr gl gs gd
  clear hW hz h35
  generalize hql : rs.length = ql at *
  generalize hqi : li.length = qi at *
  generalize hqs : sc.length = qs at *
  generalize hqd : dr.length = qd at *
  go_enter Tryz.func18, Tryz.ntmps18
  go_wp2_with fail
  refine HWD.out.mono ?_
  rintro e w1 ⟨v, rfl, ho, b1⟩
  obtain ⟨va, vc, rfl⟩ := owns_formG ho
  rw [List.length_cons]
  have hni : (((r.length + 1 : Nat) : Int) == 0) = false := by rw [beq_eq_false_iff_ne]; omega
  generalize r.length + 1 = n at *
  obtain ⟨m0, m1, mk2, mk3⟩ := HBX.out w1 b1
  obtain ⟨x0, x1, x2, x3, x4, f0, f1, f2, f3, f4⟩ := box5P m0
  obtain ⟨y0, y1, y2, y3, y4, g0, g1, g2, g3, g4⟩ := box5P m1
  simp only [zeroPV] at x0 x1 x2 x3 x4 y0 y1 y2 y3 y4
  have ZZ := hide (line_same (w := w) (p := ⟨rs, li, sc, dr, de, .slice ra ql rc, .slice la qi lc, .slice sa qs sc', .slice da qd dc⟩) hI hC b1 (some (PV.po ⟨rs, li, sc, dr, de, .slice ra ql rc, .slice la qi lc, .slice sa qs sc', .slice da qd dc⟩)) true (by first | rfl | exact ⟨rfl, rfl⟩))
  clear ho b1 m0 m1 mk2 mk3 HWD HBX hI hC hql hqi hqs hqd
  go_wp2
  refine bodyPost_ret (v := .tuple #[.agg #[.slice ra ql rc, .slice la qi lc, .slice sa qs sc', .slice da qd dc, .int .i64 de], .bool true]) ?_ rfl (ZZ.out _ _ _ _ _)
  simp [results, Tryz.results18, go_sem, y0, y1, y2, y3, y4]
set_option maxHeartbeats 4000000 in
theorem rline_other (p : PV) (s : ByteArray) (hs : s.size ≤ 4000) (w : World) (hI : IsPo w p) (hC : CapQ p) (hz : sizeP p.po ≤ 9000) (h0 : 0 < s.size) (h35 : (s[0]'h0).toNat ≠ 35) (x : Bs) (r : List Bs) (hW : wordsL s.data.toList = x :: r) (n_deep : x ≠ deepN) (n_elem : x ≠ elemN) (n_link : x ≠ linkN) (n_scheme : x ≠ schemeN) (n_drop : x ≠ dropN) :
    Calls Tryz.prog 18 #[poA p, .string s] w fun e w' => LineD w (none) e w' := by
  have hlw := words_short s.data.toList
  have hfew := words_few s.data.toList
  rw [← size_list, hW, List.length_cons] at hfew
  have hrl : r.length ≤ 10000 := by omega
  have HWD := hide (rwords_any s (by omega) (wB w p))
  rw [hW] at HWD
  have h0i : (0 : Int) < s.size := by omega
  have h35i : (((s[0]'h0).toNat : Int) == 35) = false := by rw [beq_eq_false_iff_ne]; omega
  have HBX := hide (fun y (b : Below (wB w p).heap.size (wB w p) y) => line_boxes w p b)
  have HRO := hide (fun w1 g n c hR hn hc hB => rest_own w1 w1.heap.size g n c x r hR hn hc hB hrl)
  have hzl : p.li.length ≤ 10000 ∧ p.sc.length ≤ 10000 ∧ p.dr.length ≤ 10000 ∧ p.rs.length ≤ 10000 := by
    have := attrs_len p.po.ru
    unfold sizeP at hz
    have e : p.po.ru.length = p.rs.length := List.length_map _
    exact ⟨by have : p.po.li = p.li := rfl; rw [this] at hz; omega, by have : p.po.sc = p.sc := rfl; rw [this] at hz; omega, by have : p.po.dr = p.dr := rfl; rw [this] at hz; omega, by omega⟩
  have e_deep : ((⟨x.toArray⟩ : ByteArray).toList == [100, 101, 101, 112]) = false := by rw [str_eq, str_data, beq_eq_false_iff_ne]; exact n_deep
  have e_elem : ((⟨x.toArray⟩ : ByteArray).toList == [101, 108, 101, 109, 101, 110, 116]) = false := by rw [str_eq, str_data, beq_eq_false_iff_ne]; exact n_elem
  have e_link : ((⟨x.toArray⟩ : ByteArray).toList == [108, 105, 110, 107]) = false := by rw [str_eq, str_data, beq_eq_false_iff_ne]; exact n_link
  have e_scheme : ((⟨x.toArray⟩ : ByteArray).toList == [115, 99, 104, 101, 109, 101]) = false := by rw [str_eq, str_data, beq_eq_false_iff_ne]; exact n_scheme
  have e_drop : ((⟨x.toArray⟩ : ByteArray).toList == [100, 114, 111, 112]) = false := by rw [str_eq, str_data, beq_eq_false_iff_ne]; exact n_drop
  clear n_deep n_elem n_link n_scheme n_drop
  obtain ⟨rs, li, sc, dr, de, rv, lv, sv, dv⟩ := p
  simp only [] at *
  have gr : IsR w rv rs := hI.r
  have gl : IsW w lv li := hI.l
  have gs : IsW w sv sc := hI.s
  have gd : IsW w dv dr := hI.d
  obtain ⟨ra, rc, rfl⟩ := gr.form
  obtain ⟨la, lc, rfl⟩ := gl.form
  obtain ⟨sa, sc', rfl⟩ := gs.form
  obtain ⟨da, dc, rfl⟩ := gd.form
  clear gr gl gs gd
  obtain ⟨hz1, hz2, hz3, hz4⟩ := hzl
  clear hW h35 hfew hz hlw
  generalize hql : rs.length = ql at *
  generalize hqi : li.length = qi at *
  generalize hqs : sc.length = qs at *
  generalize hqd : dr.length = qd at *
  go_enter Tryz.func18, Tryz.ntmps18
  go_wp2_with fail
  refine HWD.out.mono ?_
  rintro e w1 ⟨v, rfl, ho, b1⟩
  obtain ⟨g, c, rfl, hR, hcc⟩ := words_form ho
  have hcx : w1.cell? ⟨g, 0, none⟩ = some (.string ⟨x.toArray⟩) := hR 0 x rfl
  generalize hn : r.length + 1 = n at *
  have hn1i : (1 : Int) ≤ n := by omega
  have hn0i : (0 : Int) < n := by omega
  have hni : ((n : Int) == 0) = false := by rw [beq_eq_false_iff_ne]; omega
  have hBs := b1.size
  obtain ⟨o', c', v2, w2, hcut, hr2, ho2, b12, hv2⟩ := HRO.out w1 g n c hR rfl hcc (Nat.le_refl _)
  obtain ⟨a2, c2, rfl⟩ := owns_formG ho2
  have b2 := b1.trans (b12.mono hBs)
  have hcx2 : w2.cell? ⟨g, 0, none⟩ = some (.string ⟨x.toArray⟩) := (b12.cell (cell_lt hcx)).trans hcx
  obtain ⟨m0, m1, mk2, mk3⟩ := HBX.out w2 b2
  obtain ⟨x0, x1, x2, x3, x4, f0, f1, f2, f3, f4⟩ := box5P m0
  obtain ⟨y0, y1, y2, y3, y4, g0, g1, g2, g3, g4⟩ := box5P m1
  simp only [zeroPV] at x0 x1 x2 x3 x4 y0 y1 y2 y3 y4
  have ZZ := hide (line_same (w := w) (p := ⟨rs, li, sc, dr, de, .slice ra ql rc, .slice la qi lc, .slice sa qs sc', .slice da qd dc⟩) hI hC b2 (none) false (by first | rfl | exact ⟨rfl, rfl⟩))
  generalize (⟨x.toArray⟩ : ByteArray) = X at *
  clear ho b1 hR hcc ho2 b12 hv2 b2 m0 m1 mk2 mk3 HRO HBX HWD hI hC hrl hz1 hz2 hz3 hz4 hql hqi hqs hqd hBs
  clear hn
  go_wp2_with (at_builtin; refine Lib.wpList_append_run _ rfl (.tmp 19) (.tmp 21) _ _ rfl _ _ rfl rfl _ _ hr2 ?_)
  refine bodyPost_ret (v := .tuple #[.agg #[.slice ra ql rc, .slice la qi lc, .slice sa qs sc', .slice da qd dc, .int .i64 de], .bool false]) ?_ rfl (ZZ.out _ _ _ _ _)
  simp [results, Tryz.results18, go_sem, y0, y1, y2, y3, y4]
set_option maxHeartbeats 4000000 in
theorem rline_deep1 (p : PV) (s : ByteArray) (hs : s.size ≤ 4000) (w : World) (hI : IsPo w p) (hC : CapQ p) (hz : sizeP p.po ≤ 9000) (h0 : 0 < s.size) (h35 : (s[0]'h0).toNat ≠ 35) (x : Bs) (r : List Bs) (hW : wordsL s.data.toList = x :: r) (hx : x = deepN) (hr : r.length ≠ 1) :
    Calls Tryz.prog 18 #[poA p, .string s] w fun e w' => LineD w (none) e w' := by
  have hlw := words_short s.data.toList
  have hfew := words_few s.data.toList
  rw [← size_list, hW, List.length_cons] at hfew
  have hrl : r.length ≤ 10000 := by omega
  have HWD := hide (rwords_any s (by omega) (wB w p))
  rw [hW] at HWD
  have h0i : (0 : Int) < s.size := by omega
  have h35i : (((s[0]'h0).toNat : Int) == 35) = false := by rw [beq_eq_false_iff_ne]; omega
  have HBX := hide (fun y (b : Below (wB w p).heap.size (wB w p) y) => line_boxes w p b)
  have HRO := hide (fun w1 g n c hR hn hc hB => rest_own w1 w1.heap.size g n c x r hR hn hc hB hrl)
  have hzl : p.li.length ≤ 10000 ∧ p.sc.length ≤ 10000 ∧ p.dr.length ≤ 10000 ∧ p.rs.length ≤ 10000 := by
    have := attrs_len p.po.ru
    unfold sizeP at hz
    have e : p.po.ru.length = p.rs.length := List.length_map _
    exact ⟨by have : p.po.li = p.li := rfl; rw [this] at hz; omega, by have : p.po.sc = p.sc := rfl; rw [this] at hz; omega, by have : p.po.dr = p.dr := rfl; rw [this] at hz; omega, by omega⟩
  have e_deep : ((⟨x.toArray⟩ : ByteArray).toList == [100, 101, 101, 112]) = true := by rw [str_eq, str_data, hx]; rfl
  clear hx
  obtain ⟨rs, li, sc, dr, de, rv, lv, sv, dv⟩ := p
  simp only [] at *
  have gr : IsR w rv rs := hI.r
  have gl : IsW w lv li := hI.l
  have gs : IsW w sv sc := hI.s
  have gd : IsW w dv dr := hI.d
  obtain ⟨ra, rc, rfl⟩ := gr.form
  obtain ⟨la, lc, rfl⟩ := gl.form
  obtain ⟨sa, sc', rfl⟩ := gs.form
  obtain ⟨da, dc, rfl⟩ := gd.form
  clear gr gl gs gd
  obtain ⟨hz1, hz2, hz3, hz4⟩ := hzl
  clear hW h35 hfew hz hlw
  generalize hql : rs.length = ql at *
  generalize hqi : li.length = qi at *
  generalize hqs : sc.length = qs at *
  generalize hqd : dr.length = qd at *
  go_enter Tryz.func18, Tryz.ntmps18
  go_wp2_with fail
  refine HWD.out.mono ?_
  rintro e w1 ⟨v, rfl, ho, b1⟩
  obtain ⟨g, c, rfl, hR, hcc⟩ := words_form ho
  have hcx : w1.cell? ⟨g, 0, none⟩ = some (.string ⟨x.toArray⟩) := hR 0 x rfl
  generalize hn : r.length + 1 = n at *
  have hn1i : (1 : Int) ≤ n := by omega
  have hn0i : (0 : Int) < n := by omega
  have hni : ((n : Int) == 0) = false := by rw [beq_eq_false_iff_ne]; omega
  have hBs := b1.size
  obtain ⟨o', c', v2, w2, hcut, hr2, ho2, b12, hv2⟩ := HRO.out w1 g n c hR rfl hcc (Nat.le_refl _)
  obtain ⟨a2, c2, rfl⟩ := owns_formG ho2
  have b2 := b1.trans (b12.mono hBs)
  have hcx2 : w2.cell? ⟨g, 0, none⟩ = some (.string ⟨x.toArray⟩) := (b12.cell (cell_lt hcx)).trans hcx
  obtain ⟨m0, m1, mk2, mk3⟩ := HBX.out w2 b2
  obtain ⟨x0, x1, x2, x3, x4, f0, f1, f2, f3, f4⟩ := box5P m0
  obtain ⟨y0, y1, y2, y3, y4, g0, g1, g2, g3, g4⟩ := box5P m1
  simp only [zeroPV] at x0 x1 x2 x3 x4 y0 y1 y2 y3 y4
  have ZZ := hide (line_same (w := w) (p := ⟨rs, li, sc, dr, de, .slice ra ql rc, .slice la qi lc, .slice sa qs sc', .slice da qd dc⟩) hI hC b2 (none) false (by first | rfl | exact ⟨rfl, rfl⟩))
  have hri : ((r.length : Int) != 1) = true := by rw [bne_iff_ne]; omega
  generalize r.length = rl at *
  generalize (⟨x.toArray⟩ : ByteArray) = X at *
  clear ho b1 hR hcc ho2 b12 hv2 b2 m0 m1 mk2 mk3 HRO HBX HWD hI hC hrl hz1 hz2 hz3 hz4 hql hqi hqs hqd hBs
  clear hn hr
  go_wp2_with (at_builtin; refine Lib.wpList_append_run _ rfl (.tmp 19) (.tmp 21) _ _ rfl _ _ rfl rfl _ _ hr2 ?_)
  refine bodyPost_ret (v := .tuple #[.agg #[.slice ra ql rc, .slice la qi lc, .slice sa qs sc', .slice da qd dc, .int .i64 de], .bool false]) ?_ rfl (ZZ.out _ _ _ _ _)
  simp [results, Tryz.results18, go_sem, y0, y1, y2, y3, y4]
set_option maxHeartbeats 4000000 in
theorem rline_deepN (p : PV) (s : ByteArray) (hs : s.size ≤ 4000) (w : World) (hI : IsPo w p) (hC : CapQ p) (hz : sizeP p.po ≤ 9000) (h0 : 0 < s.size) (h35 : (s[0]'h0).toNat ≠ 35) (x : Bs) (r : List Bs) (hW : wordsL s.data.toList = x :: r) (hx : x = deepN) (d : Bs) (hr : r = [d]) (hd : deepL d = none) :
    Calls Tryz.prog 18 #[poA p, .string s] w fun e w' => LineD w (none) e w' := by
  have hlw := words_short s.data.toList
  have hfew := words_few s.data.toList
  rw [← size_list, hW, List.length_cons] at hfew
  have hrl : r.length ≤ 10000 := by omega
  have HWD := hide (rwords_any s (by omega) (wB w p))
  rw [hW] at HWD
  have h0i : (0 : Int) < s.size := by omega
  have h35i : (((s[0]'h0).toNat : Int) == 35) = false := by rw [beq_eq_false_iff_ne]; omega
  have HBX := hide (fun y (b : Below (wB w p).heap.size (wB w p) y) => line_boxes w p b)
  have HRO := hide (fun w1 g n c hR hn hc hB => rest_own w1 w1.heap.size g n c x r hR hn hc hB hrl)
  have hzl : p.li.length ≤ 10000 ∧ p.sc.length ≤ 10000 ∧ p.dr.length ≤ 10000 ∧ p.rs.length ≤ 10000 := by
    have := attrs_len p.po.ru
    unfold sizeP at hz
    have e : p.po.ru.length = p.rs.length := List.length_map _
    exact ⟨by have : p.po.li = p.li := rfl; rw [this] at hz; omega, by have : p.po.sc = p.sc := rfl; rw [this] at hz; omega, by have : p.po.dr = p.dr := rfl; rw [this] at hz; omega, by omega⟩
  have e_deep : ((⟨x.toArray⟩ : ByteArray).toList == [100, 101, 101, 112]) = true := by rw [str_eq, str_data, hx]; rfl
  clear hx
  have hdl : d.length ≤ 4000 := by
    have := hlw d (by rw [hW, hr]; simp)
    rw [← size_list] at this
    omega
  have HDP := hide (fun W => rdeep_any ⟨d.toArray⟩ W (by show d.toArray.size ≤ _; simp; omega))
  rw [show (⟨d.toArray⟩ : ByteArray).data.toList = d from by simp, hd] at HDP
  clear hd
  obtain ⟨rs, li, sc, dr, de, rv, lv, sv, dv⟩ := p
  simp only [] at *
  have gr : IsR w rv rs := hI.r
  have gl : IsW w lv li := hI.l
  have gs : IsW w sv sc := hI.s
  have gd : IsW w dv dr := hI.d
  obtain ⟨ra, rc, rfl⟩ := gr.form
  obtain ⟨la, lc, rfl⟩ := gl.form
  obtain ⟨sa, sc', rfl⟩ := gs.form
  obtain ⟨da, dc, rfl⟩ := gd.form
  clear gr gl gs gd
  obtain ⟨hz1, hz2, hz3, hz4⟩ := hzl
  clear hW h35 hfew hz hlw
  generalize hql : rs.length = ql at *
  generalize hqi : li.length = qi at *
  generalize hqs : sc.length = qs at *
  generalize hqd : dr.length = qd at *
  go_enter Tryz.func18, Tryz.ntmps18
  go_wp2_with fail
  refine HWD.out.mono ?_
  rintro e w1 ⟨v, rfl, ho, b1⟩
  obtain ⟨g, c, rfl, hR, hcc⟩ := words_form ho
  have hcx : w1.cell? ⟨g, 0, none⟩ = some (.string ⟨x.toArray⟩) := hR 0 x rfl
  generalize hn : r.length + 1 = n at *
  have hn1i : (1 : Int) ≤ n := by omega
  have hn0i : (0 : Int) < n := by omega
  have hni : ((n : Int) == 0) = false := by rw [beq_eq_false_iff_ne]; omega
  have hBs := b1.size
  obtain ⟨o', c', v2, w2, hcut, hr2, ho2, b12, hv2⟩ := HRO.out w1 g n c hR rfl hcc (Nat.le_refl _)
  obtain ⟨a2, c2, rfl⟩ := owns_formG ho2
  have b2 := b1.trans (b12.mono hBs)
  have hcx2 : w2.cell? ⟨g, 0, none⟩ = some (.string ⟨x.toArray⟩) := (b12.cell (cell_lt hcx)).trans hcx
  subst hr
  have hrd : ∃ gd, a2 = some ⟨gd, 0, none⟩ ∧ w2.cell? ⟨gd, 0, none⟩ = some (.string ⟨d.toArray⟩) := by
    obtain ⟨gg, cc, e, hT, _⟩ := words_form ho2
    injection e with e
    exact ⟨gg, e, hT 0 d rfl⟩
  obtain ⟨gd, rfl, hcd⟩ := hrd
  obtain ⟨m0, m1, mk2, mk3⟩ := HBX.out w2 b2
  obtain ⟨x0, x1, x2, x3, x4, f0, f1, f2, f3, f4⟩ := box5P m0
  obtain ⟨y0, y1, y2, y3, y4, g0, g1, g2, g3, g4⟩ := box5P m1
  simp only [zeroPV] at x0 x1 x2 x3 x4 y0 y1 y2 y3 y4
  have ZZ := hide (line_same (w := w) (p := ⟨rs, li, sc, dr, de, .slice ra ql rc, .slice la qi lc, .slice sa qs sc', .slice da qd dc⟩) hI hC b2 (none) false (by first | rfl | exact ⟨rfl, rfl⟩))
  simp only [deepR] at HDP
  simp only [List.length_cons, List.length_nil] at *
  generalize (⟨x.toArray⟩ : ByteArray) = X at *
  generalize (⟨d.toArray⟩ : ByteArray) = D at *
  clear ho b1 hR hcc ho2 b12 hv2 b2 m0 m1 mk2 mk3 HRO HBX HWD hI hC hrl hz1 hz2 hz3 hz4 hql hqi hqs hqd hBs
  clear hn hdl
  go_wp2_with (first | (at_builtin; refine Lib.wpList_append_run _ rfl (.tmp 19) (.tmp 21) _ _ rfl _ _ rfl rfl _ _ hr2 ?_) | fail)
  refine (HDP.out _).mono ?_
  rintro e w' ⟨rfl, rfl⟩
  go_wp2
  refine bodyPost_ret (v := .tuple #[.agg #[.slice ra ql rc, .slice la qi lc, .slice sa qs sc', .slice da qd dc, .int .i64 de], .bool false]) ?_ rfl (ZZ.out _ _ _ _ _)
  simp [results, Tryz.results18, go_sem, y0, y1, y2, y3, y4]
set_option maxHeartbeats 4000000 in
theorem rline_deepS (p : PV) (s : ByteArray) (hs : s.size ≤ 4000) (w : World) (hI : IsPo w p) (hC : CapQ p) (hz : sizeP p.po ≤ 9000) (h0 : 0 < s.size) (h35 : (s[0]'h0).toNat ≠ 35) (x : Bs) (r : List Bs) (hW : wordsL s.data.toList = x :: r) (hx : x = deepN) (d : Bs) (hr : r = [d]) (k : Nat) (hd : deepL d = some k) :
    Calls Tryz.prog 18 #[poA p, .string s] w fun e w' => LineD w (some { p.po with de := (k : Int) }) e w' := by
  have hlw := words_short s.data.toList
  have hfew := words_few s.data.toList
  rw [← size_list, hW, List.length_cons] at hfew
  have hrl : r.length ≤ 10000 := by omega
  have HWD := hide (rwords_any s (by omega) (wB w p))
  rw [hW] at HWD
  have h0i : (0 : Int) < s.size := by omega
  have h35i : (((s[0]'h0).toNat : Int) == 35) = false := by rw [beq_eq_false_iff_ne]; omega
  have HBX := hide (fun y (b : Below (wB w p).heap.size (wB w p) y) => line_boxes w p b)
  have HRO := hide (fun w1 g n c hR hn hc hB => rest_own w1 w1.heap.size g n c x r hR hn hc hB hrl)
  have hzl : p.li.length ≤ 10000 ∧ p.sc.length ≤ 10000 ∧ p.dr.length ≤ 10000 ∧ p.rs.length ≤ 10000 := by
    have := attrs_len p.po.ru
    unfold sizeP at hz
    have e : p.po.ru.length = p.rs.length := List.length_map _
    exact ⟨by have : p.po.li = p.li := rfl; rw [this] at hz; omega, by have : p.po.sc = p.sc := rfl; rw [this] at hz; omega, by have : p.po.dr = p.dr := rfl; rw [this] at hz; omega, by omega⟩
  have e_deep : ((⟨x.toArray⟩ : ByteArray).toList == [100, 101, 101, 112]) = true := by rw [str_eq, str_data, hx]; rfl
  clear hx
  have hdl : d.length ≤ 4000 := by
    have := hlw d (by rw [hW, hr]; simp)
    rw [← size_list] at this
    omega
  have HDP := hide (fun W => rdeep_any ⟨d.toArray⟩ W (by show d.toArray.size ≤ _; simp; omega))
  rw [show (⟨d.toArray⟩ : ByteArray).data.toList = d from by simp, hd] at HDP
  clear hd
  obtain ⟨rs, li, sc, dr, de, rv, lv, sv, dv⟩ := p
  simp only [] at *
  have gr : IsR w rv rs := hI.r
  have gl : IsW w lv li := hI.l
  have gs : IsW w sv sc := hI.s
  have gd : IsW w dv dr := hI.d
  obtain ⟨ra, rc, rfl⟩ := gr.form
  obtain ⟨la, lc, rfl⟩ := gl.form
  obtain ⟨sa, sc', rfl⟩ := gs.form
  obtain ⟨da, dc, rfl⟩ := gd.form
  clear gr gl gs gd
  obtain ⟨hz1, hz2, hz3, hz4⟩ := hzl
  clear hW h35 hfew hz hlw
  generalize hql : rs.length = ql at *
  generalize hqi : li.length = qi at *
  generalize hqs : sc.length = qs at *
  generalize hqd : dr.length = qd at *
  go_enter Tryz.func18, Tryz.ntmps18
  go_wp2_with fail
  refine HWD.out.mono ?_
  rintro e w1 ⟨v, rfl, ho, b1⟩
  obtain ⟨g, c, rfl, hR, hcc⟩ := words_form ho
  have hcx : w1.cell? ⟨g, 0, none⟩ = some (.string ⟨x.toArray⟩) := hR 0 x rfl
  generalize hn : r.length + 1 = n at *
  have hn1i : (1 : Int) ≤ n := by omega
  have hn0i : (0 : Int) < n := by omega
  have hni : ((n : Int) == 0) = false := by rw [beq_eq_false_iff_ne]; omega
  have hBs := b1.size
  obtain ⟨o', c', v2, w2, hcut, hr2, ho2, b12, hv2⟩ := HRO.out w1 g n c hR rfl hcc (Nat.le_refl _)
  obtain ⟨a2, c2, rfl⟩ := owns_formG ho2
  have b2 := b1.trans (b12.mono hBs)
  have hcx2 : w2.cell? ⟨g, 0, none⟩ = some (.string ⟨x.toArray⟩) := (b12.cell (cell_lt hcx)).trans hcx
  subst hr
  have hrd : ∃ gd, a2 = some ⟨gd, 0, none⟩ ∧ w2.cell? ⟨gd, 0, none⟩ = some (.string ⟨d.toArray⟩) := by
    obtain ⟨gg, cc, e, hT, _⟩ := words_form ho2
    injection e with e
    exact ⟨gg, e, hT 0 d rfl⟩
  obtain ⟨gd, rfl, hcd⟩ := hrd
  obtain ⟨m0, m1, mk2, mk3⟩ := HBX.out w2 b2
  obtain ⟨x0, x1, x2, x3, x4, f0, f1, f2, f3, f4⟩ := box5P m0
  obtain ⟨y0, y1, y2, y3, y4, g0, g1, g2, g3, g4⟩ := box5P m1
  simp only [zeroPV] at x0 x1 x2 x3 x4 y0 y1 y2 y3 y4
  have ZZ := hide (line_set (w := w) (p := ⟨rs, li, sc, dr, de, .slice ra ql rc, .slice la qi lc, .slice sa qs sc', .slice da qd dc⟩) (q := ⟨rs, li, sc, dr, (k : Int), .slice ra ql rc, .slice la qi lc, .slice sa qs sc', .slice da qd dc⟩) hI (⟨hI.r.below mk3, hI.l.below mk3, hI.s.below mk3, hI.d.below mk3⟩) (⟨hC.l, hC.c, hC.d, hC.a⟩) b2 4 (.int .i64 (k : Int)))
  have hk0 : ¬ ((k : Int) < 0) := by omega
  simp only [deepR] at HDP
  simp only [List.length_cons, List.length_nil] at *
  generalize (⟨x.toArray⟩ : ByteArray) = X at *
  generalize (⟨d.toArray⟩ : ByteArray) = D at *
  clear ho b1 hR hcc ho2 b12 hv2 b2 m0 m1 mk2 mk3 HRO HBX HWD hI hC hrl hz1 hz2 hz3 hz4 hql hqi hqs hqd hBs
  clear hn hdl
  go_wp2_with (first | (at_builtin; refine Lib.wpList_append_run _ rfl (.tmp 19) (.tmp 21) _ _ rfl _ _ rfl rfl _ _ hr2 ?_) | fail)
  refine (HDP.out _).mono ?_
  rintro e w' ⟨rfl, rfl⟩
  go_wp2_with fail
  refine (HDP.out _).mono ?_
  rintro e w' ⟨rfl, rfl⟩
  go_wp2
  refine bodyPost_ret (v := .tuple #[.agg #[.slice ra ql rc, .slice la qi lc, .slice sa qs sc', .slice da qd dc, .int .i64 (k : Int)], .bool true]) ?_ rfl (ZZ.out _ _ _ _ _)
  simp [results, Tryz.results18, go_sem, y0, y1, y2, y3, y4]
set_option maxHeartbeats 4000000 in
theorem rline_elemN (p : PV) (s : ByteArray) (hs : s.size ≤ 4000) (w : World) (hI : IsPo w p) (hC : CapQ p) (hz : sizeP p.po ≤ 9000) (h0 : 0 < s.size) (h35 : (s[0]'h0).toNat ≠ 35) (x : Bs) (r : List Bs) (hW : wordsL s.data.toList = x :: r) (n_deep : x ≠ deepN) (hx : x = elemN) (hr : r = []) :
    Calls Tryz.prog 18 #[poA p, .string s] w fun e w' => LineD w (none) e w' := by
  have hlw := words_short s.data.toList
  have hfew := words_few s.data.toList
  rw [← size_list, hW, List.length_cons] at hfew
  have hrl : r.length ≤ 10000 := by omega
  have HWD := hide (rwords_any s (by omega) (wB w p))
  rw [hW] at HWD
  have h0i : (0 : Int) < s.size := by omega
  have h35i : (((s[0]'h0).toNat : Int) == 35) = false := by rw [beq_eq_false_iff_ne]; omega
  have HBX := hide (fun y (b : Below (wB w p).heap.size (wB w p) y) => line_boxes w p b)
  have HRO := hide (fun w1 g n c hR hn hc hB => rest_own w1 w1.heap.size g n c x r hR hn hc hB hrl)
  have hzl : p.li.length ≤ 10000 ∧ p.sc.length ≤ 10000 ∧ p.dr.length ≤ 10000 ∧ p.rs.length ≤ 10000 := by
    have := attrs_len p.po.ru
    unfold sizeP at hz
    have e : p.po.ru.length = p.rs.length := List.length_map _
    exact ⟨by have : p.po.li = p.li := rfl; rw [this] at hz; omega, by have : p.po.sc = p.sc := rfl; rw [this] at hz; omega, by have : p.po.dr = p.dr := rfl; rw [this] at hz; omega, by omega⟩
  have e_deep : ((⟨x.toArray⟩ : ByteArray).toList == [100, 101, 101, 112]) = false := by rw [str_eq, str_data, beq_eq_false_iff_ne]; exact n_deep
  have e_elem : ((⟨x.toArray⟩ : ByteArray).toList == [101, 108, 101, 109, 101, 110, 116]) = true := by rw [str_eq, str_data, hx]; rfl
  clear hx n_deep
  obtain ⟨rs, li, sc, dr, de, rv, lv, sv, dv⟩ := p
  simp only [] at *
  have gr : IsR w rv rs := hI.r
  have gl : IsW w lv li := hI.l
  have gs : IsW w sv sc := hI.s
  have gd : IsW w dv dr := hI.d
  obtain ⟨ra, rc, rfl⟩ := gr.form
  obtain ⟨la, lc, rfl⟩ := gl.form
  obtain ⟨sa, sc', rfl⟩ := gs.form
  obtain ⟨da, dc, rfl⟩ := gd.form
  clear gr gl gs gd
  obtain ⟨hz1, hz2, hz3, hz4⟩ := hzl
  clear hW h35 hfew hz hlw
  generalize hql : rs.length = ql at *
  generalize hqi : li.length = qi at *
  generalize hqs : sc.length = qs at *
  generalize hqd : dr.length = qd at *
  go_enter Tryz.func18, Tryz.ntmps18
  go_wp2_with fail
  refine HWD.out.mono ?_
  rintro e w1 ⟨v, rfl, ho, b1⟩
  obtain ⟨g, c, rfl, hR, hcc⟩ := words_form ho
  have hcx : w1.cell? ⟨g, 0, none⟩ = some (.string ⟨x.toArray⟩) := hR 0 x rfl
  generalize hn : r.length + 1 = n at *
  have hn1i : (1 : Int) ≤ n := by omega
  have hn0i : (0 : Int) < n := by omega
  have hni : ((n : Int) == 0) = false := by rw [beq_eq_false_iff_ne]; omega
  have hBs := b1.size
  obtain ⟨o', c', v2, w2, hcut, hr2, ho2, b12, hv2⟩ := HRO.out w1 g n c hR rfl hcc (Nat.le_refl _)
  obtain ⟨a2, c2, rfl⟩ := owns_formG ho2
  have b2 := b1.trans (b12.mono hBs)
  have hcx2 : w2.cell? ⟨g, 0, none⟩ = some (.string ⟨x.toArray⟩) := (b12.cell (cell_lt hcx)).trans hcx
  subst hr
  obtain ⟨m0, m1, mk2, mk3⟩ := HBX.out w2 b2
  obtain ⟨x0, x1, x2, x3, x4, f0, f1, f2, f3, f4⟩ := box5P m0
  obtain ⟨y0, y1, y2, y3, y4, g0, g1, g2, g3, g4⟩ := box5P m1
  simp only [zeroPV] at x0 x1 x2 x3 x4 y0 y1 y2 y3 y4
  have ZZ := hide (line_same (w := w) (p := ⟨rs, li, sc, dr, de, .slice ra ql rc, .slice la qi lc, .slice sa qs sc', .slice da qd dc⟩) hI hC b2 (none) false (by first | rfl | exact ⟨rfl, rfl⟩))
  simp only [List.length_nil] at *
  generalize (⟨x.toArray⟩ : ByteArray) = X at *
  clear ho b1 hR hcc ho2 b12 hv2 b2 m0 m1 mk2 mk3 HRO HBX HWD hI hC hrl hz1 hz2 hz3 hz4 hql hqi hqs hqd hBs
  clear hn
  go_wp2_with (at_builtin; refine Lib.wpList_append_run _ rfl (.tmp 19) (.tmp 21) _ _ rfl _ _ rfl rfl _ _ hr2 ?_)
  refine bodyPost_ret (v := .tuple #[.agg #[.slice ra ql rc, .slice la qi lc, .slice sa qs sc', .slice da qd dc, .int .i64 de], .bool false]) ?_ rfl (ZZ.out _ _ _ _ _)
  simp [results, Tryz.results18, go_sem, y0, y1, y2, y3, y4]
set_option maxHeartbeats 4000000 in
theorem rline_link (p : PV) (s : ByteArray) (hs : s.size ≤ 4000) (w : World) (hI : IsPo w p) (hC : CapQ p) (hz : sizeP p.po ≤ 9000) (h0 : 0 < s.size) (h35 : (s[0]'h0).toNat ≠ 35) (x : Bs) (r : List Bs) (hW : wordsL s.data.toList = x :: r) (n_deep : x ≠ deepN) (n_elem : x ≠ elemN) (hx : x = linkN) :
    Calls Tryz.prog 18 #[poA p, .string s] w fun e w' => LineD w (some { p.po with li := p.po.li ++ r }) e w' := by
  have hlw := words_short s.data.toList
  have hfew := words_few s.data.toList
  rw [← size_list, hW, List.length_cons] at hfew
  have hrl : r.length ≤ 10000 := by omega
  have HWD := hide (rwords_any s (by omega) (wB w p))
  rw [hW] at HWD
  have h0i : (0 : Int) < s.size := by omega
  have h35i : (((s[0]'h0).toNat : Int) == 35) = false := by rw [beq_eq_false_iff_ne]; omega
  have HBX := hide (fun y (b : Below (wB w p).heap.size (wB w p) y) => line_boxes w p b)
  have HRO := hide (fun w1 g n c hR hn hc hB => rest_own w1 w1.heap.size g n c x r hR hn hc hB hrl)
  have hzl : p.li.length ≤ 10000 ∧ p.sc.length ≤ 10000 ∧ p.dr.length ≤ 10000 ∧ p.rs.length ≤ 10000 := by
    have := attrs_len p.po.ru
    unfold sizeP at hz
    have e : p.po.ru.length = p.rs.length := List.length_map _
    exact ⟨by have : p.po.li = p.li := rfl; rw [this] at hz; omega, by have : p.po.sc = p.sc := rfl; rw [this] at hz; omega, by have : p.po.dr = p.dr := rfl; rw [this] at hz; omega, by omega⟩
  have e_deep : ((⟨x.toArray⟩ : ByteArray).toList == [100, 101, 101, 112]) = false := by rw [str_eq, str_data, beq_eq_false_iff_ne]; exact n_deep
  have e_elem : ((⟨x.toArray⟩ : ByteArray).toList == [101, 108, 101, 109, 101, 110, 116]) = false := by rw [str_eq, str_data, beq_eq_false_iff_ne]; exact n_elem
  have e_link : ((⟨x.toArray⟩ : ByteArray).toList == [108, 105, 110, 107]) = true := by rw [str_eq, str_data, hx]; rfl
  clear hx n_deep n_elem
  obtain ⟨rs, li, sc, dr, de, rv, lv, sv, dv⟩ := p
  simp only [] at *
  have gr : IsR w rv rs := hI.r
  have gl : IsW w lv li := hI.l
  have gs : IsW w sv sc := hI.s
  have gd : IsW w dv dr := hI.d
  obtain ⟨ra, rc, rfl⟩ := gr.form
  obtain ⟨la, lc, rfl⟩ := gl.form
  obtain ⟨sa, sc', rfl⟩ := gs.form
  obtain ⟨da, dc, rfl⟩ := gd.form
  clear gr gl gs gd
  obtain ⟨hz1, hz2, hz3, hz4⟩ := hzl
  clear hW h35 hfew hz hlw
  generalize hql : rs.length = ql at *
  generalize hqi : li.length = qi at *
  generalize hqs : sc.length = qs at *
  generalize hqd : dr.length = qd at *
  go_enter Tryz.func18, Tryz.ntmps18
  go_wp2_with fail
  refine HWD.out.mono ?_
  rintro e w1 ⟨v, rfl, ho, b1⟩
  obtain ⟨g, c, rfl, hR, hcc⟩ := words_form ho
  have hcx : w1.cell? ⟨g, 0, none⟩ = some (.string ⟨x.toArray⟩) := hR 0 x rfl
  generalize hn : r.length + 1 = n at *
  have hn1i : (1 : Int) ≤ n := by omega
  have hn0i : (0 : Int) < n := by omega
  have hni : ((n : Int) == 0) = false := by rw [beq_eq_false_iff_ne]; omega
  have hBs := b1.size
  obtain ⟨o', c', v2, w2, hcut, hr2, ho2, b12, hv2⟩ := HRO.out w1 g n c hR rfl hcc (Nat.le_refl _)
  obtain ⟨a2, c2, rfl⟩ := owns_formG ho2
  have b2 := b1.trans (b12.mono hBs)
  have hcx2 : w2.cell? ⟨g, 0, none⟩ = some (.string ⟨x.toArray⟩) := (b12.cell (cell_lt hcx)).trans hcx
  obtain ⟨k0, k1, k2, k3⟩ := HBX.out w2 b2
  obtain ⟨c0, c1, c2', c3, c4, _⟩ := box5P k0
  simp only [] at c0 c1 c2' c3 c4
  obtain ⟨v3, w3, v4, w4, hr3, hr4, b4, hW4, hcap4, ⟨a3, d3, e3⟩, ⟨a4, d4, e4⟩⟩ := more_own w2 (.slice la qi lc) (.slice a2 r.length c2) li r (hI.l.below k3) (owns_isW ho2).1 (by omega) hrl
  rw [hqi] at e3 e4
  subst e3 e4
  have b24 := b2.trans (b4.mono b2.size)
  have ca : (w2.alloc (.cells #[] 9)).cell? ⟨w.heap.size, 1, none⟩ = some (.slice la qi lc) := ((below_alloc w2 _).cell (cell_lt c1)).trans c1
  obtain ⟨m0, m1, _, _⟩ := HBX.out w4 b24
  obtain ⟨x0, x1, x2, x3, x4, f0, f1, f2, f3, f4⟩ := box5P m0
  obtain ⟨y0, y1, y2, y3, y4, g0, g1, g2, g3, g4⟩ := box5P m1
  simp only [zeroPV] at x0 x1 x2 x3 x4 y0 y1 y2 y3 y4
  try rw [hqi] at hr3
  try rw [hqi] at hr4
  try rw [hqi] at hcap4
  have ZZ := hide (line_set (w := w) (p := ⟨rs, li, sc, dr, de, .slice ra ql rc, .slice la qi lc, .slice sa qs sc', .slice da qd dc⟩) (q := ⟨rs, li ++ r, sc, dr, de, .slice ra ql rc, .slice a4 (qi + r.length) d4, .slice sa qs sc', .slice da qd dc⟩) hI ⟨(hI.r.below k3).below b4, hW4, (hI.s.below k3).below b4, (hI.d.below k3).below b4⟩ ⟨hcap4, hC.c, hC.d, hC.a⟩ b24 1 (.slice a4 (qi + r.length) d4))
  generalize r.length = rl at *
  generalize (⟨x.toArray⟩ : ByteArray) = X at *
  clear ho b1 hR hcc ho2 b12 hv2 b2 k0 k1 k2 k3 c0 c1 c2' c3 c4 b4 hW4 hcap4 b24 m0 m1 HRO HBX HWD hI hC hrl hz1 hz2 hz3 hz4 hql hqi hqs hqd hBs hn
  go_wp2_with (at_builtin; first | refine Lib.wpList_append_run _ rfl (.tmp 19) (.tmp 21) _ _ rfl _ _ rfl rfl _ _ hr2 ?_ | refine Lib.wpList_append_run _ rfl (.tmp 66) (.tmp 68) _ _ rfl _ _ rfl rfl _ _ hr3 ?_ | refine Lib.wpList_append_run _ rfl (.tmp 69) (.tmp 70) _ _ rfl _ _ rfl rfl _ _ hr4 ?_)
  refine bodyPost_ret (v := .tuple #[.agg #[.slice ra ql rc, .slice a4 (qi + rl) d4, .slice sa qs sc', .slice da qd dc, .int .i64 de], .bool true]) ?_ rfl (ZZ.out _ _ _ _ _)
  simp [results, Tryz.results18, go_sem, y0, y1, y2, y3, y4]
set_option maxHeartbeats 4000000 in
theorem rline_scheme (p : PV) (s : ByteArray) (hs : s.size ≤ 4000) (w : World) (hI : IsPo w p) (hC : CapQ p) (hz : sizeP p.po ≤ 9000) (h0 : 0 < s.size) (h35 : (s[0]'h0).toNat ≠ 35) (x : Bs) (r : List Bs) (hW : wordsL s.data.toList = x :: r) (n_deep : x ≠ deepN) (n_elem : x ≠ elemN) (n_link : x ≠ linkN) (hx : x = schemeN) :
    Calls Tryz.prog 18 #[poA p, .string s] w fun e w' => LineD w (some { p.po with sc := p.po.sc ++ r }) e w' := by
  have hlw := words_short s.data.toList
  have hfew := words_few s.data.toList
  rw [← size_list, hW, List.length_cons] at hfew
  have hrl : r.length ≤ 10000 := by omega
  have HWD := hide (rwords_any s (by omega) (wB w p))
  rw [hW] at HWD
  have h0i : (0 : Int) < s.size := by omega
  have h35i : (((s[0]'h0).toNat : Int) == 35) = false := by rw [beq_eq_false_iff_ne]; omega
  have HBX := hide (fun y (b : Below (wB w p).heap.size (wB w p) y) => line_boxes w p b)
  have HRO := hide (fun w1 g n c hR hn hc hB => rest_own w1 w1.heap.size g n c x r hR hn hc hB hrl)
  have hzl : p.li.length ≤ 10000 ∧ p.sc.length ≤ 10000 ∧ p.dr.length ≤ 10000 ∧ p.rs.length ≤ 10000 := by
    have := attrs_len p.po.ru
    unfold sizeP at hz
    have e : p.po.ru.length = p.rs.length := List.length_map _
    exact ⟨by have : p.po.li = p.li := rfl; rw [this] at hz; omega, by have : p.po.sc = p.sc := rfl; rw [this] at hz; omega, by have : p.po.dr = p.dr := rfl; rw [this] at hz; omega, by omega⟩
  have e_deep : ((⟨x.toArray⟩ : ByteArray).toList == [100, 101, 101, 112]) = false := by rw [str_eq, str_data, beq_eq_false_iff_ne]; exact n_deep
  have e_elem : ((⟨x.toArray⟩ : ByteArray).toList == [101, 108, 101, 109, 101, 110, 116]) = false := by rw [str_eq, str_data, beq_eq_false_iff_ne]; exact n_elem
  have e_link : ((⟨x.toArray⟩ : ByteArray).toList == [108, 105, 110, 107]) = false := by rw [str_eq, str_data, beq_eq_false_iff_ne]; exact n_link
  have e_scheme : ((⟨x.toArray⟩ : ByteArray).toList == [115, 99, 104, 101, 109, 101]) = true := by rw [str_eq, str_data, hx]; rfl
  clear hx n_deep n_elem n_link
  obtain ⟨rs, li, sc, dr, de, rv, lv, sv, dv⟩ := p
  simp only [] at *
  have gr : IsR w rv rs := hI.r
  have gl : IsW w lv li := hI.l
  have gs : IsW w sv sc := hI.s
  have gd : IsW w dv dr := hI.d
  obtain ⟨ra, rc, rfl⟩ := gr.form
  obtain ⟨la, lc, rfl⟩ := gl.form
  obtain ⟨sa, sc', rfl⟩ := gs.form
  obtain ⟨da, dc, rfl⟩ := gd.form
  clear gr gl gs gd
  obtain ⟨hz1, hz2, hz3, hz4⟩ := hzl
  clear hW h35 hfew hz hlw
  generalize hql : rs.length = ql at *
  generalize hqi : li.length = qi at *
  generalize hqs : sc.length = qs at *
  generalize hqd : dr.length = qd at *
  go_enter Tryz.func18, Tryz.ntmps18
  go_wp2_with fail
  refine HWD.out.mono ?_
  rintro e w1 ⟨v, rfl, ho, b1⟩
  obtain ⟨g, c, rfl, hR, hcc⟩ := words_form ho
  have hcx : w1.cell? ⟨g, 0, none⟩ = some (.string ⟨x.toArray⟩) := hR 0 x rfl
  generalize hn : r.length + 1 = n at *
  have hn1i : (1 : Int) ≤ n := by omega
  have hn0i : (0 : Int) < n := by omega
  have hni : ((n : Int) == 0) = false := by rw [beq_eq_false_iff_ne]; omega
  have hBs := b1.size
  obtain ⟨o', c', v2, w2, hcut, hr2, ho2, b12, hv2⟩ := HRO.out w1 g n c hR rfl hcc (Nat.le_refl _)
  obtain ⟨a2, c2, rfl⟩ := owns_formG ho2
  have b2 := b1.trans (b12.mono hBs)
  have hcx2 : w2.cell? ⟨g, 0, none⟩ = some (.string ⟨x.toArray⟩) := (b12.cell (cell_lt hcx)).trans hcx
  obtain ⟨k0, k1, k2, k3⟩ := HBX.out w2 b2
  obtain ⟨c0, c1, c2', c3, c4, _⟩ := box5P k0
  simp only [] at c0 c1 c2' c3 c4
  obtain ⟨v3, w3, v4, w4, hr3, hr4, b4, hW4, hcap4, ⟨a3, d3, e3⟩, ⟨a4, d4, e4⟩⟩ := more_own w2 (.slice sa qs sc') (.slice a2 r.length c2) sc r (hI.s.below k3) (owns_isW ho2).1 (by omega) hrl
  rw [hqs] at e3 e4
  subst e3 e4
  have b24 := b2.trans (b4.mono b2.size)
  have ca : (w2.alloc (.cells #[] 9)).cell? ⟨w.heap.size, 2, none⟩ = some (.slice sa qs sc') := ((below_alloc w2 _).cell (cell_lt c2')).trans c2'
  obtain ⟨m0, m1, _, _⟩ := HBX.out w4 b24
  obtain ⟨x0, x1, x2, x3, x4, f0, f1, f2, f3, f4⟩ := box5P m0
  obtain ⟨y0, y1, y2, y3, y4, g0, g1, g2, g3, g4⟩ := box5P m1
  simp only [zeroPV] at x0 x1 x2 x3 x4 y0 y1 y2 y3 y4
  try rw [hqs] at hr3
  try rw [hqs] at hr4
  try rw [hqs] at hcap4
  have ZZ := hide (line_set (w := w) (p := ⟨rs, li, sc, dr, de, .slice ra ql rc, .slice la qi lc, .slice sa qs sc', .slice da qd dc⟩) (q := ⟨rs, li, sc ++ r, dr, de, .slice ra ql rc, .slice la qi lc, .slice a4 (qs + r.length) d4, .slice da qd dc⟩) hI ⟨(hI.r.below k3).below b4, (hI.l.below k3).below b4, hW4, (hI.d.below k3).below b4⟩ ⟨hC.l, hcap4, hC.d, hC.a⟩ b24 2 (.slice a4 (qs + r.length) d4))
  generalize r.length = rl at *
  generalize (⟨x.toArray⟩ : ByteArray) = X at *
  clear ho b1 hR hcc ho2 b12 hv2 b2 k0 k1 k2 k3 c0 c1 c2' c3 c4 b4 hW4 hcap4 b24 m0 m1 HRO HBX HWD hI hC hrl hz1 hz2 hz3 hz4 hql hqi hqs hqd hBs hn
  go_wp2_with (at_builtin; first | refine Lib.wpList_append_run _ rfl (.tmp 19) (.tmp 21) _ _ rfl _ _ rfl rfl _ _ hr2 ?_ | refine Lib.wpList_append_run _ rfl (.tmp 75) (.tmp 77) _ _ rfl _ _ rfl rfl _ _ hr3 ?_ | refine Lib.wpList_append_run _ rfl (.tmp 78) (.tmp 79) _ _ rfl _ _ rfl rfl _ _ hr4 ?_)
  refine bodyPost_ret (v := .tuple #[.agg #[.slice ra ql rc, .slice la qi lc, .slice a4 (qs + rl) d4, .slice da qd dc, .int .i64 de], .bool true]) ?_ rfl (ZZ.out _ _ _ _ _)
  simp [results, Tryz.results18, go_sem, y0, y1, y2, y3, y4]
set_option maxHeartbeats 4000000 in
theorem rline_drop (p : PV) (s : ByteArray) (hs : s.size ≤ 4000) (w : World) (hI : IsPo w p) (hC : CapQ p) (hz : sizeP p.po ≤ 9000) (h0 : 0 < s.size) (h35 : (s[0]'h0).toNat ≠ 35) (x : Bs) (r : List Bs) (hW : wordsL s.data.toList = x :: r) (n_deep : x ≠ deepN) (n_elem : x ≠ elemN) (n_link : x ≠ linkN) (n_scheme : x ≠ schemeN) (hx : x = dropN) :
    Calls Tryz.prog 18 #[poA p, .string s] w fun e w' => LineD w (some { p.po with dr := p.po.dr ++ r }) e w' := by
  have hlw := words_short s.data.toList
  have hfew := words_few s.data.toList
  rw [← size_list, hW, List.length_cons] at hfew
  have hrl : r.length ≤ 10000 := by omega
  have HWD := hide (rwords_any s (by omega) (wB w p))
  rw [hW] at HWD
  have h0i : (0 : Int) < s.size := by omega
  have h35i : (((s[0]'h0).toNat : Int) == 35) = false := by rw [beq_eq_false_iff_ne]; omega
  have HBX := hide (fun y (b : Below (wB w p).heap.size (wB w p) y) => line_boxes w p b)
  have HRO := hide (fun w1 g n c hR hn hc hB => rest_own w1 w1.heap.size g n c x r hR hn hc hB hrl)
  have hzl : p.li.length ≤ 10000 ∧ p.sc.length ≤ 10000 ∧ p.dr.length ≤ 10000 ∧ p.rs.length ≤ 10000 := by
    have := attrs_len p.po.ru
    unfold sizeP at hz
    have e : p.po.ru.length = p.rs.length := List.length_map _
    exact ⟨by have : p.po.li = p.li := rfl; rw [this] at hz; omega, by have : p.po.sc = p.sc := rfl; rw [this] at hz; omega, by have : p.po.dr = p.dr := rfl; rw [this] at hz; omega, by omega⟩
  have e_deep : ((⟨x.toArray⟩ : ByteArray).toList == [100, 101, 101, 112]) = false := by rw [str_eq, str_data, beq_eq_false_iff_ne]; exact n_deep
  have e_elem : ((⟨x.toArray⟩ : ByteArray).toList == [101, 108, 101, 109, 101, 110, 116]) = false := by rw [str_eq, str_data, beq_eq_false_iff_ne]; exact n_elem
  have e_link : ((⟨x.toArray⟩ : ByteArray).toList == [108, 105, 110, 107]) = false := by rw [str_eq, str_data, beq_eq_false_iff_ne]; exact n_link
  have e_scheme : ((⟨x.toArray⟩ : ByteArray).toList == [115, 99, 104, 101, 109, 101]) = false := by rw [str_eq, str_data, beq_eq_false_iff_ne]; exact n_scheme
  have e_drop : ((⟨x.toArray⟩ : ByteArray).toList == [100, 114, 111, 112]) = true := by rw [str_eq, str_data, hx]; rfl
  clear hx n_deep n_elem n_link n_scheme
  obtain ⟨rs, li, sc, dr, de, rv, lv, sv, dv⟩ := p
  simp only [] at *
  have gr : IsR w rv rs := hI.r
  have gl : IsW w lv li := hI.l
  have gs : IsW w sv sc := hI.s
  have gd : IsW w dv dr := hI.d
  obtain ⟨ra, rc, rfl⟩ := gr.form
  obtain ⟨la, lc, rfl⟩ := gl.form
  obtain ⟨sa, sc', rfl⟩ := gs.form
  obtain ⟨da, dc, rfl⟩ := gd.form
  clear gr gl gs gd
  obtain ⟨hz1, hz2, hz3, hz4⟩ := hzl
  clear hW h35 hfew hz hlw
  generalize hql : rs.length = ql at *
  generalize hqi : li.length = qi at *
  generalize hqs : sc.length = qs at *
  generalize hqd : dr.length = qd at *
  go_enter Tryz.func18, Tryz.ntmps18
  go_wp2_with fail
  refine HWD.out.mono ?_
  rintro e w1 ⟨v, rfl, ho, b1⟩
  obtain ⟨g, c, rfl, hR, hcc⟩ := words_form ho
  have hcx : w1.cell? ⟨g, 0, none⟩ = some (.string ⟨x.toArray⟩) := hR 0 x rfl
  generalize hn : r.length + 1 = n at *
  have hn1i : (1 : Int) ≤ n := by omega
  have hn0i : (0 : Int) < n := by omega
  have hni : ((n : Int) == 0) = false := by rw [beq_eq_false_iff_ne]; omega
  have hBs := b1.size
  obtain ⟨o', c', v2, w2, hcut, hr2, ho2, b12, hv2⟩ := HRO.out w1 g n c hR rfl hcc (Nat.le_refl _)
  obtain ⟨a2, c2, rfl⟩ := owns_formG ho2
  have b2 := b1.trans (b12.mono hBs)
  have hcx2 : w2.cell? ⟨g, 0, none⟩ = some (.string ⟨x.toArray⟩) := (b12.cell (cell_lt hcx)).trans hcx
  obtain ⟨k0, k1, k2, k3⟩ := HBX.out w2 b2
  obtain ⟨c0, c1, c2', c3, c4, _⟩ := box5P k0
  simp only [] at c0 c1 c2' c3 c4
  obtain ⟨v3, w3, v4, w4, hr3, hr4, b4, hW4, hcap4, ⟨a3, d3, e3⟩, ⟨a4, d4, e4⟩⟩ := more_own w2 (.slice da qd dc) (.slice a2 r.length c2) dr r (hI.d.below k3) (owns_isW ho2).1 (by omega) hrl
  rw [hqd] at e3 e4
  subst e3 e4
  have b24 := b2.trans (b4.mono b2.size)
  have ca : (w2.alloc (.cells #[] 9)).cell? ⟨w.heap.size, 3, none⟩ = some (.slice da qd dc) := ((below_alloc w2 _).cell (cell_lt c3)).trans c3
  obtain ⟨m0, m1, _, _⟩ := HBX.out w4 b24
  obtain ⟨x0, x1, x2, x3, x4, f0, f1, f2, f3, f4⟩ := box5P m0
  obtain ⟨y0, y1, y2, y3, y4, g0, g1, g2, g3, g4⟩ := box5P m1
  simp only [zeroPV] at x0 x1 x2 x3 x4 y0 y1 y2 y3 y4
  try rw [hqd] at hr3
  try rw [hqd] at hr4
  try rw [hqd] at hcap4
  have ZZ := hide (line_set (w := w) (p := ⟨rs, li, sc, dr, de, .slice ra ql rc, .slice la qi lc, .slice sa qs sc', .slice da qd dc⟩) (q := ⟨rs, li, sc, dr ++ r, de, .slice ra ql rc, .slice la qi lc, .slice sa qs sc', .slice a4 (qd + r.length) d4⟩) hI ⟨(hI.r.below k3).below b4, (hI.l.below k3).below b4, (hI.s.below k3).below b4, hW4⟩ ⟨hC.l, hC.c, hcap4, hC.a⟩ b24 3 (.slice a4 (qd + r.length) d4))
  generalize r.length = rl at *
  generalize (⟨x.toArray⟩ : ByteArray) = X at *
  clear ho b1 hR hcc ho2 b12 hv2 b2 k0 k1 k2 k3 c0 c1 c2' c3 c4 b4 hW4 hcap4 b24 m0 m1 HRO HBX HWD hI hC hrl hz1 hz2 hz3 hz4 hql hqi hqs hqd hBs hn
  go_wp2_with (at_builtin; first | refine Lib.wpList_append_run _ rfl (.tmp 19) (.tmp 21) _ _ rfl _ _ rfl rfl _ _ hr2 ?_ | refine Lib.wpList_append_run _ rfl (.tmp 84) (.tmp 86) _ _ rfl _ _ rfl rfl _ _ hr3 ?_ | refine Lib.wpList_append_run _ rfl (.tmp 87) (.tmp 88) _ _ rfl _ _ rfl rfl _ _ hr4 ?_)
  refine bodyPost_ret (v := .tuple #[.agg #[.slice ra ql rc, .slice la qi lc, .slice sa qs sc', .slice a4 (qd + rl) d4, .int .i64 de], .bool true]) ?_ rfl (ZZ.out _ _ _ _ _)
  simp [results, Tryz.results18, go_sem, y0, y1, y2, y3, y4]
end Go.Proofs.YthopnliaikkhbaaGreatDoor
