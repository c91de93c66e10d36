import Derived.Test.YthpepkfodcgbcaaWq12
import Derived.Test.YthpepkfodcgbcaaWq09
/- What the program's Cut answers. -/
set_option linter.unusedVariables false
set_option linter.unusedSimpArgs false
set_option maxRecDepth 40000
namespace Go.Proofs.Ythpepkfodcgbcaa
open Go.RowKit

/-- All cells of a block. -/
def RowC (w : World) (g : Nat) (L : List (CL × Value)) : Prop := w.heap[g]? = some (.cells (cellsV L).toArray 90 (0, 0))
def set5C (w : World) (g o : Nat) (c : CL) (v : Value) : World := ((((w.setCell ⟨g, o, none⟩ (.int .u64 (c.ep : Int))).setCell ⟨g, o + 1, none⟩ (.int .u64 (c.li : Int))).setCell ⟨g, o + 2, none⟩ (.int .i64 c.part)).setCell ⟨g, o + 3, none⟩ (.int .i64 c.of)).setCell ⟨g, o + 4, none⟩ v
theorem cellsV_set : ∀ (L : List (CL × Value)) (i : Nat) (c : CL) (v : Value), (((((cellsV L).set (i * 5) (.int .u64 (c.ep : Int))).set (i * 5 + 1) (.int .u64 (c.li : Int))).set (i * 5 + 2) (.int .i64 c.part)).set (i * 5 + 3) (.int .i64 c.of)).set (i * 5 + 4) v = cellsV (L.set i (c, v))
  | [], i, c, v => by simp [cellsV]
  | x :: r, 0, c, v => by simp [cellsV]
  | x :: r, i + 1, c, v => by
    have ih := cellsV_set r i c v
    rw [List.set_cons_succ]
    show _ = _ :: _ :: _ :: _ :: _ :: cellsV (r.set i (c, v))
    rw [← ih, show (i + 1) * 5 = i * 5 + 1 + 1 + 1 + 1 + 1 by omega]
    rfl
theorem heap_setC {w : World} {g : Nat} {C : List Value} {t : TypeId} (h : w.heap[g]? = some (.cells C.toArray t (0, 0))) (o : Nat) (v : Value) : (w.setCell ⟨g, o, none⟩ v).heap[g]? = some (.cells (C.set o v).toArray t (0, 0)) := by
  rw [setCell_eq_setRow w g o _ t _ _ h, setRow_heap w g _ _ t _ h]
  simp
theorem RowC.set {w : World} {g : Nat} {L : List (CL × Value)} (h : RowC w g L) (i : Nat) (c : CL) (v : Value) : RowC (set5C w g (i * 5) c v) g (L.set i (c, v)) := by
  unfold RowC set5C
  rw [← cellsV_set L i c v]
  exact heap_setC (heap_setC (heap_setC (heap_setC (heap_setC h _ _) _ _) _ _) _ _) _ _
theorem set5C_other (w : World) (g o : Nat) (c : CL) (v : Value) (k : Nat) (hk : k ≠ g) : (set5C w g o c v).heap[k]? = w.heap[k]? := by
  unfold set5C
  rw [Below.heap_setCell _ _ _ _ hk, Below.heap_setCell _ _ _ _ hk, Below.heap_setCell _ _ _ _ hk, Below.heap_setCell _ _ _ _ hk, Below.heap_setCell _ _ _ _ hk]
theorem set5C_size (w : World) (g o : Nat) (c : CL) (v : Value) : (set5C w g o c v).heap.size = w.heap.size := by simp [set5C, World.setCell]
theorem set5C_below {n : Nat} {w W : World} (h : Below n w W) (g o : Nat) (c : CL) (v : Value) (hg : n ≤ g) : Below n w (set5C W g o c v) := ((((h.setCell hg _).setCell hg _).setCell hg _).setCell hg _).setCell hg _
theorem RowC.cells {w : World} {g : Nat} {L : List (CL × Value)} (h : RowC w g L) (i : Nat) (hi : i < L.length) : w.cell? ⟨g, i * 5, none⟩ = some (.int .u64 (L[i].1.ep : Int)) ∧ w.cell? ⟨g, i * 5 + 1, none⟩ = some (.int .u64 (L[i].1.li : Int)) ∧ w.cell? ⟨g, i * 5 + 2, none⟩ = some (.int .i64 L[i].1.part) ∧ w.cell? ⟨g, i * 5 + 3, none⟩ = some (.int .i64 L[i].1.of) ∧ w.cell? ⟨g, i * 5 + 4, none⟩ = some L[i].2 ∧ ∀ j, w.frozen? ⟨g, j, none⟩ = false := by
  obtain ⟨p0, p1, p2, p3, p4⟩ := cellsV_get L i hi
  unfold RowC at h
  refine ⟨?_, ?_, ?_, ?_, ?_, fun j => by simp [World.frozen?, h]⟩
  · rw [cell_of_row w g _ _ _ _ h]; simpa using p0
  · rw [cell_of_row w g _ _ _ _ h]; simpa using p1
  · rw [cell_of_row w g _ _ _ _ h]; simpa using p2
  · rw [cell_of_row w g _ _ _ _ h]; simpa using p3
  · rw [cell_of_row w g _ _ _ _ h]; simpa using p4
/-- Cells that are being laid into a row that was made whole. -/
structure LayC (w : World) (vs : List (CL × Value)) (n g : Nat) (x : World) : Prop where
  r : RowC x g (vs ++ List.replicate (n - vs.length) (zeroC, .slice none 0 0))
  c : ∀ y ∈ vs, IsC x y.1 y.2
  s : ∀ y ∈ vs, ∀ k, y.2.ownBlock = some k → k ≠ g ∧ k < x.heap.size ∧ w.heap.size ≤ k
  b : Below w.heap.size w x
  g : w.heap.size ≤ g
theorem LayC.below {w x y : World} {vs : List (CL × Value)} {n g : Nat} (h : LayC w vs n g x) (hb : Below x.heap.size x y) : LayC w vs n g y :=
  ⟨(hb.block g (Array.getElem?_eq_some_iff.1 h.r).1).trans h.r, fun z hz => (h.c z hz).below hb, fun z hz k hk => ⟨(h.s z hz k hk).1, Nat.lt_of_lt_of_le (h.s z hz k hk).2.1 hb.size, (h.s z hz k hk).2.2⟩, h.b.trans (hb.mono h.b.size), h.g⟩
theorem LayC.step {w x : World} {vs : List (CL × Value)} {n g : Nat} (h : LayC w vs n g x) (hl : vs.length < n) (c : CL) (v : Value) (hc : IsC x c v) (hv : ∀ k, v.ownBlock = some k → k ≠ g ∧ k < x.heap.size ∧ w.heap.size ≤ k) : LayC w (vs ++ [(c, v)]) n g (set5C x g (vs.length * 5) c v) := by
  have hset := h.r.set vs.length c v
  have hrep : List.replicate (n - vs.length) ((zeroC, Value.slice none 0 0) : CL × Value) = (zeroC, .slice none 0 0) :: List.replicate (n - (vs.length + 1)) (zeroC, .slice none 0 0) := by
    rw [show n - vs.length = (n - (vs.length + 1)) + 1 by omega]
    rfl
  rw [hrep, List.set_append_right _ _ (Nat.le_refl _), Nat.sub_self, List.set_cons_zero] at hset
  have hk : ∀ u : Value, ∀ l : Bs, IsY x u l → (∀ k, u.ownBlock = some k → k ≠ g) → IsY (set5C x g (vs.length * 5) c v) u l := fun u l hu hne => isY_keepC hu fun k hk => set5C_other _ _ _ _ _ _ (hne k hk)
  refine ⟨?_, fun y hy => ?_, fun y hy k hkk => ?_, set5C_below h.b _ _ _ _ h.g, h.g⟩
  · rw [List.length_append, List.append_assoc]
    exact hset
  · rcases List.mem_append.1 hy with hy | hy
    · have hh := h.c y hy
      exact ⟨hh.ep, hh.li, hh.part, hh.of, hk _ _ hh.d fun k hk => (h.s y hy k hk).1⟩
    · obtain rfl := List.mem_singleton.1 hy
      exact ⟨hc.ep, hc.li, hc.part, hc.of, hk _ _ hc.d fun k hk => (hv k hk).1⟩
  · rw [set5C_size]
    rcases List.mem_append.1 hy with hy | hy
    · exact h.s y hy k hkk
    · obtain rfl := List.mem_singleton.1 hy
      exact hv k hkk
theorem made_cells : ∀ n : Nat, (madeCells #[Value.int .u64 0, .int .u64 0, .int .i64 0, .int .i64 0, .slice none 0 0] (n * 5)).toList = cellsV (List.replicate n (zeroC, .slice none 0 0)) := by
  intro n
  apply List.ext_getElem?
  intro j
  by_cases hj : j < n * 5
  · have hi : j / 5 < n := by omega
    obtain ⟨p0, p1, p2, p3, p4⟩ := cellsV_get (List.replicate n (zeroC, Value.slice none 0 0)) (j / 5) (by rw [List.length_replicate]; exact hi)
    rw [List.getElem_replicate] at p0 p1 p2 p3 p4
    have e : (madeCells #[Value.int .u64 0, .int .u64 0, .int .i64 0, .int .i64 0, .slice none 0 0] (n * 5)).toList[j]? = #[Value.int .u64 0, .int .u64 0, .int .i64 0, .int .i64 0, .slice none 0 0][j % 5]? := by
      have hm : j % 5 < 5 := Nat.mod_lt _ (by decide)
      simp [madeCells, hj, hm]
    rw [e]
    have h5 : j % 5 < 5 := Nat.mod_lt _ (by decide)
    have hj5 : j = j / 5 * 5 + j % 5 := by omega
    rcases (by omega : j % 5 = 0 ∨ j % 5 = 1 ∨ j % 5 = 2 ∨ j % 5 = 3 ∨ j % 5 = 4) with h | h | h | h | h
    · rw [h] at hj5 ⊢
      rw [hj5, Nat.add_zero]
      exact p0.symm
    · rw [h] at hj5 ⊢
      conv => rhs; rw [hj5]
      exact p1.symm
    · rw [h] at hj5 ⊢
      conv => rhs; rw [hj5]
      exact p2.symm
    · rw [h] at hj5 ⊢
      conv => rhs; rw [hj5]
      exact p3.symm
    · rw [h] at hj5 ⊢
      conv => rhs; rw [hj5]
      exact p4.symm
  · rw [List.getElem?_eq_none (by rw [Array.length_toList, size_madeCells]; omega), List.getElem?_eq_none (by rw [cellsV_len, List.length_replicate]; omega)]
theorem make_cells (w : World) (n : Nat) (hn : n ≤ 1000000) : ∃ w1, (Instr.makeSlice 69 (.int .i64 (n : Int)) (.int .i64 (n : Int))).run Try.prog w = .ok (.slice (some ⟨w.heap.size, 0, none⟩) n n) w1 ∧ LayC w [] n w.heap.size w1 := by
  have hr := run_make (P := Try.prog) w 69 90 Try.t90 (.agg #[.int .u64 0, .int .u64 0, .int .i64 0, .int .i64 0, .slice none 0 0]) Try.underlying69 (by kernel_rfl) (by kernel_rfl) .i64 .i64 n n (by omega) (by omega) (by rw [show Try.t90.bytes = 56 from by kernel_rfl]; omega) (by omega)
  simp only [Int.toNat_natCast] at hr
  refine ⟨_, hr, ⟨?_, (fun y hy => absurd hy (by simp)), (fun y hy => absurd hy (by simp)), below_alloc w _, Nat.le_refl _⟩⟩
  unfold RowC
  rw [List.nil_append, List.length_nil, Nat.sub_zero, ← made_cells n, Array.toArray_toList]
  exact alloc_newC w _
theorem LayC.isL {w x : World} {vs : List (CL × Value)} {g : Nat} (h : LayC w vs vs.length g x) : IsL x (.slice (some ⟨g, 0, none⟩) vs.length vs.length) vs := by
  have hr := h.r
  rw [Nat.sub_self, List.replicate_zero, List.append_nil] at hr
  refine ⟨.inr ⟨g, 0, vs.length, rfl, fun j hj => ?_⟩, h.c⟩
  obtain ⟨p0, p1, p2, p3, p4, _⟩ := RowC.cells hr j hj
  rw [Nat.zero_add]
  exact ⟨p0, p1, p2, p3, p4⟩
theorem LayC.keepL {w x y : World} {vs : List (CL × Value)} {g : Nat} (h : LayC w vs vs.length g x) (hk : ∀ k, w.heap.size ≤ k → k < x.heap.size → y.heap[k]? = x.heap[k]?) : IsL y (.slice (some ⟨g, 0, none⟩) vs.length vs.length) vs := by
  have hr := (hk g h.g (Array.getElem?_eq_some_iff.1 h.r).1).trans h.r
  rw [Nat.sub_self, List.replicate_zero, List.append_nil] at hr
  refine ⟨.inr ⟨g, 0, vs.length, rfl, fun j hj => ?_⟩, fun z hz => ?_⟩
  · obtain ⟨p0, p1, p2, p3, p4, _⟩ := RowC.cells hr j hj
    rw [Nat.zero_add]
    exact ⟨p0, p1, p2, p3, p4⟩
  · have hh := h.c z hz
    exact ⟨hh.ep, hh.li, hh.part, hh.of, isY_keepC hh.d fun k hkk => hk k (h.s z hz k hkk).2.2 (h.s z hz k hkk).2.1⟩
/-- A list of cells is told, with room for as many at least. -/
def CutCap (w : World) (cs : List CL) (e : Ending) (x : World) : Prop := ∃ v vs, e = .returned v ∧ IsL x v vs ∧ (∀ a n c, v = .slice a n c → n ≤ c) ∧ vs.map Prod.fst = cs ∧ Below w.heap.size w x ∧ ∀ y : World, (∀ k, w.heap.size ≤ k → k < x.heap.size → y.heap[k]? = x.heap[k]?) → IsL y v vs
set_option maxHeartbeats 8000000 in
theorem pcut_cap (bv : Value) (b : Bs) (ep li : Nat) (w : World) (hY : IsY w bv b) (hl : b.length ≤ 1000000) (he : ep < 18446744073709551616) (hli : li < 18446744073709551616) :
    Calls Try.prog 45 #[bv, .int .u64 (ep : Int), .int .u64 (li : Int)] w fun e w' => CutCap w (cutC b ep li) e w' := by
  obtain ⟨ba, bc, rfl⟩ := hY.form
  have hlB : ¬ (2555865 : Int) < b.length := by omega
  obtain ⟨nn, hnn⟩ : ∃ nn : Nat, nn = (b.length + 38) / 39 := ⟨_, rfl⟩
  obtain ⟨w1, hmk, hlay⟩ := make_cells w nn (by omega)
  have HS0 := hide hlay
  have HE0 : Hid (([] : List (CL × Value)).length = 0 ∧ ([] : List (CL × Value)).map Prod.fst ++ restC b ep li 0 = cutC b ep li) := hide ⟨rfl, by rw [rest_all b ep li (by omega)]; rfl⟩
  have HSUB := hide (fun i j (h1 : i ≤ j) (h2 : j ≤ b.length) x (hx : Below w.heap.size w x) => sub_isY (hY.below hx) i j h1 h2)
  have HRS := hide (fun k h => rest_step b ep li k h)
  have HRE := hide (fun k h => rest_end b ep li k h)
  have HIS : Hid (∀ (g : Nat) (vs : List (CL × Value)) (x : World), vs.length = nn → LayC w vs nn g x → vs.map Prod.fst = cutC b ep li → CutCap w (cutC b ep li) (.returned (.slice (some ⟨g, 0, none⟩) nn nn)) x) := hide (fun g vs x h1 h2 h3 => by
    subst h1
    exact ⟨_, vs, rfl, h2.isL, fun a n c e => by cases e; exact Nat.le_refl _, h3, h2.b, fun y hy => h2.keepL hy⟩)
  have hq : ((b.length : Int) + 39 - 1).tdiv 39 = (nn : Int) := by rw [Int.tdiv_eq_ediv_of_nonneg (by omega)]; omega
  have hq2 : ((b.length : Int) + 39 - 1) / 39 = (nn : Int) := by omega
  have hw1 : wrap64 ((b.length : Int) + 39) = (b.length : Int) + 39 := by unfold wrap64; omega
  have hw2 : wrap64 ((b.length : Int) + 39 - 1) = (b.length : Int) + 39 - 1 := by unfold wrap64; omega
  have hnl : nn ≤ 1000000 := by omega
  have HNN : Hid (39 * nn ≥ b.length ∧ (∀ i, i < nn → 39 * i < b.length)) := hide ⟨by omega, fun i hi => by omega⟩
  have HNQ := hide hnn
  generalize hCC : cutC b ep li = CC at *
  obtain ⟨n, hn⟩ : ∃ n, b.length = n := ⟨_, rfl⟩
  have HN := hide hn
  rw [hn] at hl hlB HSUB hq hq2 hw1 hw2 HNN
  rw [hn]
  clear hCC hY hn hnn hlay
  go_enter Try.func45, Try.ntmps45
  go_wp2
  go_loopw [24] (fun vi wr => ∃ (k : Nat) (vs : List (CL × Value)), vi = .int .i64 (k : Int) ∧ k ≤ nn ∧ Hid (LayC w vs nn w.heap.size wr) ∧ Hid (vs.length = k ∧ vs.map Prod.fst ++ restC b ep li k = CC)) (fun vi _ => nn - (intOf vi).toNat)
  case atStart => exact ⟨0, [], rfl, Nat.zero_le _, HS0, HE0⟩
  case round =>
    clear HS0 HE0
    obtain ⟨k, vs, rfl, hk, HS, HE⟩ := hrel
    by_cases hlt : k < nn
    · have hlt2 : (k : Int) < (nn : Int) := by omega
      have hk39 := HNN.out.2 k hlt
      obtain ⟨en, hen⟩ : ∃ en : Nat, en = min (39 * k + 39) n := ⟨_, rfl⟩
      obtain ⟨u, hsl, hu⟩ := HSUB.out (39 * k) en (by omega) (by omega) wr HS.out.b
      obtain ⟨ua, uc, rfl⟩ := hu.form
      have hdl : ((b.drop (39 * k)).take (en - 39 * k)).length ≤ 1000000 := by rw [List.length_take]; omega
      have HCL := hide (pclone_any _ _ wr hu hdl)
      have hst := HRS.out k (by rw [HN.out]; exact hk39)
      rw [HN.out, ← hen] at hst
      have HSTEP : Hid (∀ a c x, CloneR wr ((b.drop (39 * k)).take (en - 39 * k)) (.returned (.slice a ((b.drop (39 * k)).take (en - 39 * k)).length c)) x → (∃ u0 u1 u2 u3 u4, x.cell? ⟨w.heap.size, k * 5, none⟩ = some u0 ∧ x.cell? ⟨w.heap.size, k * 5 + 1, none⟩ = some u1 ∧ x.cell? ⟨w.heap.size, k * 5 + 2, none⟩ = some u2 ∧ x.cell? ⟨w.heap.size, k * 5 + 3, none⟩ = some u3 ∧ x.cell? ⟨w.heap.size, k * 5 + 4, none⟩ = some u4 ∧ ∀ j, x.frozen? ⟨w.heap.size, j, none⟩ = false) ∧ ∃ vs', Hid (LayC w vs' nn w.heap.size (((((x.setCell ⟨w.heap.size, k * 5, none⟩ (.int .u64 (ep : Int))).setCell ⟨w.heap.size, k * 5 + 1, none⟩ (.int .u64 (li : Int))).setCell ⟨w.heap.size, k * 5 + 2, none⟩ (.int .i64 (k : Int))).setCell ⟨w.heap.size, k * 5 + 3, none⟩ (.int .i64 (nn : Int))).setCell ⟨w.heap.size, k * 5 + 4, none⟩ (.slice a ((b.drop (39 * k)).take (en - 39 * k)).length c))) ∧ Hid (vs'.length = k + 1 ∧ vs'.map Prod.fst ++ restC b ep li (k + 1) = CC)) := hide (fun a c x hcl => by
        obtain ⟨a', c', e, hy, hnew, hb⟩ := hcl
        injection e with e
        injection e with e1 e2 e3
        subst e1 e3
        have hE := HE.out
        have hS := HS.out.below hb
        have hcs := hS.r.cells k (by rw [List.length_append, List.length_replicate, hE.1]; omega)
        refine ⟨⟨_, _, _, _, _, hcs⟩, vs ++ [(⟨ep, li, k, nn, (b.drop (39 * k)).take (en - 39 * k)⟩, .slice a ((b.drop (39 * k)).take (en - 39 * k)).length c)], hide ?_, hide ⟨by rw [List.length_append, hE.1]; rfl, ?_⟩⟩
        · have h1 := hS.step (by rw [hE.1]; exact hlt) ⟨ep, li, k, nn, (b.drop (39 * k)).take (en - 39 * k)⟩ (.slice a ((b.drop (39 * k)).take (en - 39 * k)).length c) ⟨he, hli, by show -9223372036854775808 ≤ (k : Int) ∧ (k : Int) ≤ 9223372036854775807; omega, by show -9223372036854775808 ≤ (nn : Int) ∧ (nn : Int) ≤ 9223372036854775807; omega, hy⟩ (fun j hj => by
            have h3 := hnew j hj
            have h4 := (Array.getElem?_eq_some_iff.1 HS.out.r).1
            have h5 := HS.out.b.size
            omega)
          rw [hE.1] at h1
          exact h1
        · rw [← hE.2, hst, List.map_append, List.append_assoc, HNQ.out, HN.out]
          rfl)
      rw [show ((39 * k : Nat) : Int) = (k : Int) * 39 by omega] at hsl
      have HSL := hide hsl
      have hwk : wrap64 ((k : Int) * 39) = (k : Int) * 39 := by unfold wrap64; omega
      have hwk2 : wrap64 ((k : Int) * 39 + 39) = (k : Int) * 39 + 39 := by unfold wrap64; omega
      have hcase : (((k : Int) * 39 + 39 ≤ n) ∧ (en : Int) = (k : Int) * 39 + 39) ∨ (¬ ((k : Int) * 39 + 39 ≤ n) ∧ (en : Int) = n) := by omega
      clear hsl hu hst HSUB HRS HRE HIS hdl hen HE HS HNN HNQ hk39
      generalize ((b.drop (39 * k)).take (en - 39 * k)) = DD at *
      rcases hcase with ⟨g1, g2⟩ | ⟨g1, g2⟩
      all_goals
        rw [g2] at HSL
        have hsl := HSL.out
        clear g2
        go_wp2_with fail
        refine HCL.out.mono ?_
        intro e x hcl
        obtain ⟨a, c, rfl, h2, h3, h4⟩ := hcl
        obtain ⟨⟨u0, u1, u2, u3, u4, k0, k1, k2, k3, k4, kf⟩, vs', HL, HV⟩ := HSTEP.out a c x ⟨a, c, rfl, h2, h3, h4⟩
        clear h2 h3 h4 HCL HSTEP HSL hsl
        generalize DD.length = dl at *
        go_wp2
        go_roundw
        case rel => exact ⟨k + 1, vs', by go_num, by omega, HL, HV⟩
        case measure => simp [intOf]; omega
    · have hlt2 : ¬ (k : Int) < (nn : Int) := by omega
      obtain rfl : k = nn := by omega
      have hE := HE.out
      rw [HRE.out k (by rw [HN.out]; exact HNN.out.1), List.append_nil] at hE
      have HF := hide (HIS.out _ vs wr hE.1 HS.out hE.2)
      clear HIS HRE HRS HSUB HE HS hE
      go_wp2
      go_ret
      exact HF.out
theorem pcut_any (bv : Value) (b : Bs) (ep li : Nat) (w : World) (hY : IsY w bv b) (hl : b.length ≤ 1000000) (he : ep < 18446744073709551616) (hli : li < 18446744073709551616) :
    Calls Try.prog 45 #[bv, .int .u64 (ep : Int), .int .u64 (li : Int)] w fun e w' => CutR w (cutC b ep li) e w' := (pcut_cap bv b ep li w hY hl he hli).mono fun e w' h => by
  obtain ⟨v, vs, h1, h2, _, h4, h5, _⟩ := h
  exact ⟨v, vs, h1, h2, h4, h5⟩
end Go.Proofs.Ythpepkfodcgbcaa
