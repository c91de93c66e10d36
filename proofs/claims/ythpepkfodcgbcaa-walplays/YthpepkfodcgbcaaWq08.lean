import Derived.Test.YthpepkfodcgbcaaWq07
/- What the document's Decode answers of a sector's bytes. -/
set_option linter.unusedVariables false
set_option linter.unusedSimpArgs false
set_option maxRecDepth 40000
namespace Go.Proofs.Ythpepkfodcgbcaa
open Go.RowKit

/-- A part of bytes whose length is written out. -/
theorem part_isY {w : World} {g o cap : Nat} {b : Bs} (hl : b.length = 64) (hcap : 64 ≤ cap) (hh : ∀ j (hj : j < b.length), w.cell? ⟨g, o + j, none⟩ = some (.int .u8 (b[j].toNat : Int))) (i k : Nat) (hk : i + k ≤ 64) : IsY w (.slice (some ⟨g, o + i, none⟩) k (cap - i)) ((b.drop i).take k) := by
  have hlen : ((b.drop i).take k).length = k := by rw [List.length_take, List.length_drop]; omega
  refine .inr ⟨g, o + i, cap - i, by rw [hlen], by rw [hlen]; omega, fun j hj => ?_⟩
  rw [hlen] at hj
  have h7 := hh (i + j) (by omega)
  rw [← Nat.add_assoc] at h7
  rw [h7]
  congr 3
  rw [List.getElem_take, List.getElem_drop]
theorem renc_any (c : CL) (dv : Value) (w : World) (hC : IsC w c dv) : Calls Try.prog 50 #[clA c dv] w fun e w' => Below w.heap.size w w' ∧ ((¬ mayC c ∧ e = .returned (.tuple #[.slice none 0 0, .int .i64 1])) ∨ (mayC c ∧ ∃ a k, e = .returned (.tuple #[.slice a 64 k, .int .i64 0]) ∧ w'.ownsRow w.heap.size 5 1 (.slice a 64 k) 64 (Lib.byteCells (encC c)))) := by
  by_cases hm : mayC c
  · refine (renc_may c dv w hC hm).mono ?_
    rintro e w' ⟨⟨v, rfl, ho⟩, hb⟩
    obtain ⟨a, k, rfl⟩ := owns_formY ho
    exact ⟨hb, .inr ⟨hm, a, k, rfl, ho⟩⟩
  · refine (renc_not c dv w hC hm).mono ?_
    rintro e w' ⟨rfl, hb⟩
    exact ⟨hb, .inl ⟨hm, rfl⟩⟩
/-- What stands behind the four numbers. -/
structure DecW (w x : World) (n0 n1 n2 n3 : Nat) : Prop where
  size : x.heap.size = w.heap.size + 2
  b : Below w.heap.size w x
  r : x.heap[w.heap.size]? = some (.cells (clC zeroC (.slice none 0 0)) 90 (0, 0))
  c : x.heap[w.heap.size + 1]? = some (.cells #[.int .u64 (n0 : Int), .int .u64 (n1 : Int), .int .i64 (n2 : Int), .int .i64 (n3 : Int), .slice none 0 0] 90 (0, 0))
theorem decW (w : World) (n0 n1 n2 n3 : Nat) : DecW w ((w.alloc (.cells #[.int .u64 0, .int .u64 0, .int .i64 0, .int .i64 0, .slice none 0 0] 90)).alloc (.cells #[.int .u64 (n0 : Int), .int .u64 (n1 : Int), .int .i64 (n2 : Int), .int .i64 (n3 : Int), .slice none 0 0] 90)).drew n0 n1 n2 n3 := by
  have hs : (w.alloc (.cells #[.int .u64 0, .int .u64 0, .int .i64 0, .int .i64 0, .slice none 0 0] 90)).heap.size = w.heap.size + 1 := by simp
  refine ⟨by simp, (below_two w _ _).drew, ?_, ?_⟩
  · have h1 := (below_alloc (w.alloc (.cells #[.int .u64 0, .int .u64 0, .int .i64 0, .int .i64 0, .slice none 0 0] 90)) (.cells #[.int .u64 (n0 : Int), .int .u64 (n1 : Int), .int .i64 (n2 : Int), .int .i64 (n3 : Int), .slice none 0 0] 90)).block w.heap.size (by omega)
    exact h1.trans (alloc_newC w _)
  · have h1 := alloc_newC (w.alloc (.cells #[.int .u64 0, .int .u64 0, .int .i64 0, .int .i64 0, .slice none 0 0] 90)) (.cells #[.int .u64 (n0 : Int), .int .u64 (n1 : Int), .int .i64 (n2 : Int), .int .i64 (n3 : Int), .slice none 0 0] 90)
    rw [hs] at h1
    exact h1
/-- What stands behind the bytes that were copied. -/
structure DecV (w x : World) (n0 n1 n2 n3 : Nat) (D : Bs) (dv : Value) : Prop where
  b : Below w.heap.size w x
  r : x.heap[w.heap.size]? = some (.cells (clC zeroC (.slice none 0 0)) 90 (0, 0))
  c : x.heap[w.heap.size + 1]? = some (.cells #[.int .u64 (n0 : Int), .int .u64 (n1 : Int), .int .i64 (n2 : Int), .int .i64 (n3 : Int), dv] 90 (0, 0))
  i : IsC x ⟨n0, n1, n2, n3, D⟩ dv
  o : x.ownsRow (w.heap.size + 2) 5 1 dv D.length (Lib.byteCells D)
  s : w.heap.size + 2 ≤ x.heap.size
theorem owns_butC {w W : World} {B n : Nat} {e : TypeId} {z : Nat} {v : Value} {xs : List Value} (h : w.ownsRow B e z v n xs) (hk : ∀ k, B ≤ k → W.heap[k]? = w.heap[k]?) : W.ownsRow B e z v n xs := by
  refine ⟨h.1, ?_⟩
  rcases h.2 with h | ⟨g, cap, cur, h1, h2, h3, h4⟩
  · exact .inl h
  · exact .inr ⟨g, cap, cur, h1, h2, (hk g h2).trans h3, h4⟩
theorem dec_cells {w w2 w3 : World} {n0 n1 n2 n3 x dc : Nat} {D : Bs} {da : Option Addr} (hc : w3.heap[w.heap.size + 1]? = some (.cells #[.int .u64 (n0 : Int), .int .u64 (n1 : Int), .int .i64 (n2 : Int), .int .i64 (n3 : Int), .slice none 0 0] 90 (0, 0)))
    (hr : w3.heap[w.heap.size]? = some (.cells (clC zeroC (.slice none 0 0)) 90 (0, 0))) (hb : Below w.heap.size w w3) (ho : w3.ownsRow w2.heap.size 5 1 (.slice da x dc) x (Lib.byteCells D)) (hl : D.length = x) (h0 : n0 < 18446744073709551616) (h1 : n1 < 18446744073709551616) (h2 : n2 < 65536) (h3 : n3 < 65536) (hs : w2.heap.size = w.heap.size + 2) :
    DecV w (w3.setCell ⟨w.heap.size + 1, 4, none⟩ (.slice da x dc)) n0 n1 n2 n3 D (.slice da x dc) := by
  subst hl
  rw [hs] at ho
  have hlt : w.heap.size + 1 < w3.heap.size := (Array.getElem?_eq_some_iff.1 hc).1
  have hk : ∀ k, w.heap.size + 2 ≤ k → (w3.setCell ⟨w.heap.size + 1, 4, none⟩ (.slice da D.length dc)).heap[k]? = w3.heap[k]? := fun k hk => Below.heap_setCell _ _ _ _ (by show k ≠ w.heap.size + 1; omega)
  have ho' := owns_butC ho hk
  refine ⟨hb.setCell (by show w.heap.size ≤ w.heap.size + 1; omega) _, (Below.heap_setCell _ _ _ _ (by show w.heap.size ≠ w.heap.size + 1; omega)).trans hr, ?_, ⟨h0, h1, ⟨by show -9223372036854775808 ≤ (n2 : Int); omega, by show (n2 : Int) ≤ _; omega⟩, ⟨by show -9223372036854775808 ≤ (n3 : Int); omega, by show (n3 : Int) ≤ _; omega⟩, owns_isYB ho'⟩, ho', ?_⟩
  · rw [setCell_eq_setRow w3 _ 4 _ _ _ _ hc, setRow_heap w3 _ _ _ _ _ hc]
    rfl
  · rcases ho.2 with ⟨_, _⟩ | ⟨g, _, _, _, h5, h6, _⟩
    · have : w3.heap.size ≤ (w3.setCell ⟨w.heap.size + 1, 4, none⟩ (.slice da D.length dc)).heap.size := by simp [World.setCell]
      omega
    · have := (Array.getElem?_eq_some_iff.1 h6).1
      have h8 : w3.heap.size ≤ (w3.setCell ⟨w.heap.size + 1, 4, none⟩ (.slice da D.length dc)).heap.size := by simp [World.setCell]
      omega
theorem num_two (l : Bs) (h : l.length ≤ 2) : numB l < 65536 := by
  refine Nat.lt_of_lt_of_le (num_lt l) (Nat.le_trans (Nat.pow_le_pow_right (by decide) h) (by decide))
theorem num_eight (l : Bs) (h : l.length ≤ 8) : numB l < 18446744073709551616 := by
  refine Nat.lt_of_lt_of_le (num_lt l) (Nat.le_trans (Nat.pow_le_pow_right (by decide) h) (by decide))
set_option maxHeartbeats 8000000 in
theorem rdec_sector (bv : Value) (b : Bs) (w : World) (hY : IsY w bv b) (h : b.length = 64) (h3 : (b[20]'(by omega)).toNat ≤ 39) : Calls Try.prog 43 #[bv] w (DecR w b) := by
  have hYY := hY
  rcases hY with ⟨e, _⟩ | ⟨bb, bo, cap, rfl, hcap, hh⟩
  · rw [e] at h; cases h
  have hcap' : 64 ≤ cap := by omega
  have h20 := at_twenty b h
  have HC : Hid (∀ x, Below w.heap.size w x → x.cell? ⟨bb, bo + 20, none⟩ = some (.int .u8 ((b[20]'(by omega)).toNat : Int))) := hide (fun x hb => (hb.cell (cell_lt (hh 20 (by omega)))).trans (hh 20 (by omega)))
  have HN : Hid (∀ x, Below w.heap.size w x → Calls Try.prog 63 #[.slice (some ⟨bb, bo, none⟩) 8 cap] x (fun e w' => e = .returned (.int .u64 (numB (b.take 8) : Int)) ∧ w' = x) ∧ Calls Try.prog 63 #[.slice (some ⟨bb, bo + 8, none⟩) 8 (cap - 8)] x (fun e w' => e = .returned (.int .u64 (numB ((b.drop 8).take 8) : Int)) ∧ w' = x) ∧ Calls Try.prog 63 #[.slice (some ⟨bb, bo + 16, none⟩) 2 (cap - 16)] x (fun e w' => e = .returned (.int .u64 (numB ((b.drop 16).take 2) : Int)) ∧ w' = x) ∧ Calls Try.prog 63 #[.slice (some ⟨bb, bo + 18, none⟩) 2 (cap - 18)] x (fun e w' => e = .returned (.int .u64 (numB ((b.drop 18).take 2) : Int)) ∧ w' = x)) := hide (fun x hb => by
    have hh' : ∀ j (hj : j < b.length), x.cell? ⟨bb, bo + j, none⟩ = some (.int .u8 (b[j].toNat : Int)) := fun j hj => (hb.cell (cell_lt (hh j hj))).trans (hh j hj)
    have p0 := part_isY h hcap' hh' 0 8 (by omega)
    rw [Nat.add_zero, Nat.sub_zero, List.drop_zero] at p0
    exact ⟨rnumber_any _ _ x p0 (by rw [List.length_take]; omega), rnumber_any _ _ x (part_isY h hcap' hh' 8 8 (by omega)) (by rw [List.length_take]; omega), rnumber_any _ _ x (part_isY h hcap' hh' 16 2 (by omega)) (by rw [List.length_take]; omega), rnumber_any _ _ x (part_isY h hcap' hh' 18 2 (by omega)) (by rw [List.length_take]; omega)⟩)
  have hn0 := num_eight (b.take 8) (by rw [List.length_take]; omega)
  have hn1 := num_eight ((b.drop 8).take 8) (by rw [List.length_take]; omega)
  have hn2 := num_two ((b.drop 16).take 2) (by rw [List.length_take]; omega)
  have hn3 := num_two ((b.drop 18).take 2) (by rw [List.length_take]; omega)
  have HRD : Hid (readC b = ⟨numB (b.take 8), numB ((b.drop 8).take 8), numB ((b.drop 16).take 2), numB ((b.drop 18).take 2), (b.drop 21).take (b[20]'(by omega)).toNat⟩) := hide (by unfold readC; rw [h20])
  have HPD : Hid (∀ x, Below w.heap.size w x → IsY x (.slice (some ⟨bb, bo + 21, none⟩) (b[20]'(by omega)).toNat (cap - 21)) ((b.drop 21).take (b[20]'(by omega)).toNat)) := hide (fun x hb => part_isY h hcap' (fun j hj => (hb.cell (cell_lt (hh j hj))).trans (hh j hj)) 21 _ (by omega))
  have HDL : Hid (((b.drop 21).take (b[20]'(by omega)).toNat).length = (b[20]'(by omega)).toNat) := hide (by rw [List.length_take, List.length_drop]; omega)
  have HYB : Hid (∀ x, Below w.heap.size w x → IsY x (.slice (some ⟨bb, bo, none⟩) 64 cap) b) := hide (fun x hb => by have := hYY.below hb; rw [h] at this; exact this)
  have HDE : Hid (decC b = if mayC (readC b) ∧ encC (readC b) = b then some (readC b) else none) := hide (by
    unfold decC
    by_cases hm : mayC (readC b) ∧ encC (readC b) = b
    · rw [if_pos hm, if_pos ⟨h, by rw [h20]; exact h3, hm.1, hm.2⟩]
    · rw [if_neg hm, if_neg (fun hx => hm ⟨hx.2.2.1, hx.2.2.2⟩)])
  have hcI : (64 : Int) ≤ (cap : Int) := by omega
  have hi8 : (8 : Int) ≤ (cap : Int) := by omega
  have hi16 : (16 : Int) ≤ (cap : Int) := by omega
  have hi18 : (18 : Int) ≤ (cap : Int) := by omega
  have hi20 : (20 : Int) ≤ (cap : Int) := by omega
  have hw2 : IntKind.i64.wrap (numB ((b.drop 16).take 2) : Int) = (numB ((b.drop 16).take 2) : Int) := by rw [IntKind.wrap_i64]; omega
  have hw3 : IntKind.i64.wrap (numB ((b.drop 18).take 2) : Int) = (numB ((b.drop 18).take 2) : Int) := by rw [IntKind.wrap_i64]; omega
  have hc16 : ¬ cap = 16 := by omega
  have hc8 : ¬ cap = 8 := by omega
  have hc18 : ¬ cap = 18 := by omega
  have hc21 : ¬ cap = 21 := by omega
  rw [h]
  clear hYY hh hcap h20
  generalize (b[20]'(by omega)).toNat = x at *
  generalize (b.drop 21).take x = D at *
  generalize numB (b.take 8) = n0 at *
  generalize numB ((b.drop 8).take 8) = n1 at *
  generalize numB ((b.drop 16).take 2) = n2 at *
  generalize numB ((b.drop 18).take 2) = n3 at *
  go_enter Try.func43, Try.ntmps43
  have h3I : decide ((39 : Int) < (x : Int)) = false := decide_eq_false (by omega)
  have B1 := hide (below_alloc w (.cells #[.int .u64 0, .int .u64 0, .int .i64 0, .int .i64 0, .slice none 0 0] 90))
  have hc20 := HC.out _ B1.out
  go_wp2_with fail
  rename_i K0 hK0
  have HREST : Exit.then K0 (bodyPost Try.prog Try.f43 (DecR w b)) Exit.normal { tmps := #[.slice (some ⟨bb, bo, none⟩) 64 cap, undef, .pointer (some ⟨w.heap.size, 0, none⟩), .int .i64 0, .pointer (some ⟨w.heap.size + 1, 0, none⟩), undef, undef, .slice (some ⟨bb, bo, none⟩) 64 cap, .int .i64 64, .bool false, .bool false, .slice (some ⟨bb, bo, none⟩) 64 cap, .pointer (some ⟨bb, bo + 20, none⟩), .int .u8 (x : Int), .bool false, .bool false, undef, .slice (some ⟨bb, bo, none⟩) 64 cap, .slice (some ⟨bb, bo, none⟩) 8 cap, .int .u64 (n0 : Int), .slice (some ⟨bb, bo, none⟩) 64 cap, .slice (some ⟨bb, bo + 8, none⟩) 8 (cap - 8), .int .u64 (n1 : Int), .slice (some ⟨bb, bo, none⟩) 64 cap, .slice (some ⟨bb, bo + 16, none⟩) 2 (cap - 16), .int .u64 (n2 : Int), .int .i64 (n2 : Int), .slice (some ⟨bb, bo, none⟩) 64 cap, .slice (some ⟨bb, bo + 18, none⟩) 2 (cap - 18), .int .u64 (n3 : Int), .int .i64 (n3 : Int), .agg #[.int .u64 (n0 : Int), .int .u64 (n1 : Int), .int .i64 (n2 : Int), .int .i64 (n3 : Int), .slice none 0 0], undef, undef, undef, undef, undef, undef, undef, undef, undef, undef, undef, undef, undef, undef, undef, undef, undef, undef, undef, undef, undef, undef, undef, undef, undef, undef], defers := [] } ((w.alloc (.cells #[.int .u64 0, .int .u64 0, .int .i64 0, .int .i64 0, .slice none 0 0] 90)).alloc (.cells #[.int .u64 (n0 : Int), .int .u64 (n1 : Int), .int .i64 (n2 : Int), .int .i64 (n3 : Int), .slice none 0 0] 90)).drew := by
    have HDW := hide (decW w n0 n1 n2 n3)
    generalize ((w.alloc (.cells #[.int .u64 0, .int .u64 0, .int .i64 0, .int .i64 0, .slice none 0 0] 90)).alloc (.cells #[.int .u64 (n0 : Int), .int .u64 (n1 : Int), .int .i64 (n2 : Int), .int .i64 (n3 : Int), .slice none 0 0] 90)).drew = w2 at *
    clear HN B1 hc20 hi8 hi16 hi18 hi20 hc16 hc8 hc18 hw2 hw3 h3I
    have hD := HDW.out
    obtain ⟨da, dc, w3, hr, ho, hb⟩ := copyC w2 _ D (HPD.out w2 hD.b) (by rw [HDL.out]; omega)
    rw [HDL.out] at hr ho
    have hb20 := HC.out _ (hD.b.trans ((below_alloc w2 (.cells #[] 5)).mono hD.b.size))
    have hsl1 : (21 : Int) + (x : Int) ≤ (cap : Int) := by omega
    have hsl2 : (21 : Int) ≤ 21 + (x : Int) := by omega
    have hsl3 : ((21 : Int) + (x : Int)).toNat = 21 + x := by omega
    have hsl4 : 21 + x - 21 = x := by omega
    have hwx : wrap64 (21 + (x : Int)) = 21 + (x : Int) := by unfold wrap64; omega
    have HRUN := hide hr
    have HO := hide ho
    have HB3 := hide hb
    have hbx3 : w3.heap[w.heap.size + 1]? = some (.cells #[.int .u64 (n0 : Int), .int .u64 (n1 : Int), .int .i64 (n2 : Int), .int .i64 (n3 : Int), .slice none 0 0] 90 (0, 0)) := (hb.block _ (by have := hD.size; omega)).trans hD.c
    have hbr3 : w3.heap[w.heap.size]? = some (.cells (clC zeroC (.slice none 0 0)) 90 (0, 0)) := (hb.block _ (by have := hD.size; omega)).trans hD.r
    have hcx : w3.cell? ⟨w.heap.size + 1, 4, none⟩ = some (.slice none 0 0) := by rw [cell_of_row w3 _ 4 _ _ _ hbx3]; rfl
    have hfx : w3.frozen? ⟨w.heap.size + 1, 4, none⟩ = false := by simp [World.frozen?, hbx3]
    have hbw3 : Below w.heap.size w w3 := hD.b.trans (hb.mono hD.b.size)
    have HDC := hide (dec_cells (da := da) (x := x) (dc := dc) hbx3 hbr3 hbw3 ho HDL.out hn0 hn1 hn2 hn3 hD.size)
    have e0 : w3.cell? ⟨w.heap.size + 1, 0, none⟩ = some (.int .u64 (n0 : Int)) := by rw [cell_of_row w3 _ 0 _ _ _ hbx3]; rfl
    have e1 : w3.cell? ⟨w.heap.size + 1, 1, none⟩ = some (.int .u64 (n1 : Int)) := by rw [cell_of_row w3 _ 1 _ _ _ hbx3]; rfl
    have e2 : w3.cell? ⟨w.heap.size + 1, 2, none⟩ = some (.int .i64 (n2 : Int)) := by rw [cell_of_row w3 _ 2 _ _ _ hbx3]; rfl
    have e3 : w3.cell? ⟨w.heap.size + 1, 3, none⟩ = some (.int .i64 (n3 : Int)) := by rw [cell_of_row w3 _ 3 _ _ _ hbx3]; rfl
    clear hr ho hb hD hbx3 hbr3 hbw3
    go_wp2_with (first | (at_builtin; refine wpList_append_run rfl _ _ 43 rfl _ _ _ _ rfl rfl HRUN.out ?_) | fail)
    clear HRUN HO HB3 HDW e0 e1 e2 e3 hcx hfx hb20 hsl1 hsl2 hsl3 hsl4 hwx HPD
    generalize w3.setCell ⟨w.heap.size + 1, 4, none⟩ (.slice da x dc) = w4 at *
    refine (renc_any ⟨n0, n1, n2, n3, D⟩ (.slice da x dc) w4 HDC.out.i).mono ?_
    rintro e w5 ⟨hb5, hcase⟩
    have V := HDC.out
    have bw5 : Below w.heap.size w w5 := V.b.trans (hb5.mono V.b.size)
    have r5 := (hb5.block _ (by have := V.s; omega)).trans V.r
    have c5 := (hb5.block _ (by have := V.s; omega)).trans V.c
    have o5 := owns_keepC V.o hb5
    have f0 : w5.cell? ⟨w.heap.size, 0, none⟩ = some (.int .u64 0) := by rw [cell_of_row w5 _ 0 _ _ _ r5]; rfl
    have f1 : w5.cell? ⟨w.heap.size, 1, none⟩ = some (.int .u64 0) := by rw [cell_of_row w5 _ 1 _ _ _ r5]; rfl
    have f2 : w5.cell? ⟨w.heap.size, 2, none⟩ = some (.int .i64 0) := by rw [cell_of_row w5 _ 2 _ _ _ r5]; rfl
    have f3 : w5.cell? ⟨w.heap.size, 3, none⟩ = some (.int .i64 0) := by rw [cell_of_row w5 _ 3 _ _ _ r5]; rfl
    have f4 : w5.cell? ⟨w.heap.size, 4, none⟩ = some (.slice none 0 0) := by rw [cell_of_row w5 _ 4 _ _ _ r5]; rfl
    have ff : ∀ j, w5.frozen? ⟨w.heap.size, j, none⟩ = false := fun j => by simp [World.frozen?, r5]
    have g0 : w5.cell? ⟨w.heap.size + 1, 0, none⟩ = some (.int .u64 (n0 : Int)) := by rw [cell_of_row w5 _ 0 _ _ _ c5]; rfl
    have g1 : w5.cell? ⟨w.heap.size + 1, 1, none⟩ = some (.int .u64 (n1 : Int)) := by rw [cell_of_row w5 _ 1 _ _ _ c5]; rfl
    have g2 : w5.cell? ⟨w.heap.size + 1, 2, none⟩ = some (.int .i64 (n2 : Int)) := by rw [cell_of_row w5 _ 2 _ _ _ c5]; rfl
    have g3 : w5.cell? ⟨w.heap.size + 1, 3, none⟩ = some (.int .i64 (n3 : Int)) := by rw [cell_of_row w5 _ 3 _ _ _ c5]; rfl
    have g4 : w5.cell? ⟨w.heap.size + 1, 4, none⟩ = some (.slice da x dc) := by rw [cell_of_row w5 _ 4 _ _ _ c5]; rfl
    have hS5 : ∀ (u0 u1 u2 u3 u4 : Value), Below w.heap.size w (((((w5.setCell ⟨w.heap.size, 0, none⟩ u0).setCell ⟨w.heap.size, 1, none⟩ u1).setCell ⟨w.heap.size, 2, none⟩ u2).setCell ⟨w.heap.size, 3, none⟩ u3).setCell ⟨w.heap.size, 4, none⟩ u4) := fun u0 u1 u2 u3 u4 => ((((bw5.setCell (Nat.le_refl _) u0).setCell (Nat.le_refl _) u1).setCell (Nat.le_refl _) u2).setCell (Nat.le_refl _) u3).setCell (Nat.le_refl _) u4
    have HS5 := hide hS5
    have HV := hide (And.intro o5 (And.intro HDL.out V.b))
    have hrd := HRD.out
    have hde := HDE.out
    rw [hrd] at hde
    have HDEC := hide hde
    have HCV : Hid (∀ l : Bs, ∀ u, IsY w5 u l → (convert 43 9 u).run Try.prog w5 = .ok (.string ⟨l.toArray⟩) w5) := hide (fun l u hu => conv_isYC hu)
    have HBY := hide (HYB.out w5 bw5)
    clear V r5 c5 o5 hS5 hrd hde bw5 HDE HRD HYB HDC
    rcases hcase with ⟨hnm, rfl⟩ | ⟨hm, oa, ok, rfl, ho⟩
    · have HF : Hid (∀ x, Below w.heap.size w x → DecR w b (.returned (.tuple #[clA zeroC (.slice none 0 0), .int .i64 8])) x) := hide (fun x hb => ⟨hb, .inl ⟨by rw [HDEC.out, if_neg (fun hh => hnm hh.1)], rfl⟩⟩)
      clear hnm HDEC hb5
      go_wp2
      refine bodyPost_ret (v := .tuple #[clA zeroC (.slice none 0 0), .int .i64 8]) ?_ rfl (HF.out _ (HS5.out _ _ _ _ _))
      simp [results, Try.results43, go_sem, f0, f1, f2, f3, f4]
    · have hel := enc_len ⟨n0, n1, n2, n3, D⟩ hm.2.2.2
      have hcv1 := HCV.out (encC ⟨n0, n1, n2, n3, D⟩) (.slice oa 64 ok) (by
        have ho2 := ho
        rw [← hel] at ho2
        have h9 := owns_isYB ho2
        rw [hel] at h9
        exact h9)
      have hcv2 := HCV.out b _ HBY.out
      by_cases hEN : encC ⟨n0, n1, n2, n3, D⟩ = b
      · have HF : Hid (∀ y, Below w5.heap.size w5 y ∨ True → Below w.heap.size w y → y.ownsRow (w.heap.size + 2) 5 1 (.slice da x dc) D.length (Lib.byteCells D) → DecR w b (.returned (.tuple #[clA ⟨n0, n1, n2, n3, D⟩ (.slice da x dc), .int .i64 0])) y) := hide (fun y _ hb hoo => ⟨hb, .inr ⟨⟨n0, n1, n2, n3, D⟩, .slice da x dc, by rw [HDEC.out, if_pos ⟨hm, hEN⟩], rfl, own_baseY hoo (by omega)⟩⟩)
        have HO5 : Hid (∀ (u0 u1 u2 u3 u4 : Value), (((((w5.setCell ⟨w.heap.size, 0, none⟩ u0).setCell ⟨w.heap.size, 1, none⟩ u1).setCell ⟨w.heap.size, 2, none⟩ u2).setCell ⟨w.heap.size, 3, none⟩ u3).setCell ⟨w.heap.size, 4, none⟩ u4).ownsRow (w.heap.size + 2) 5 1 (.slice da x dc) D.length (Lib.byteCells D)) := hide (fun u0 u1 u2 u3 u4 => owns_butC HV.out.1 (fun k hk => by
          have hne : k ≠ w.heap.size := by omega
          rw [Below.heap_setCell _ _ _ _ hne, Below.heap_setCell _ _ _ _ hne, Below.heap_setCell _ _ _ _ hne, Below.heap_setCell _ _ _ _ hne, Below.heap_setCell _ _ _ _ hne]))
        rw [hEN] at hcv1
        clear hm HDEC hb5 ho hel hEN
        go_wp2
        refine bodyPost_ret (v := .tuple #[clA ⟨n0, n1, n2, n3, D⟩ (.slice da x dc), .int .i64 0]) ?_ rfl (HF.out _ (.inr trivial) (HS5.out _ _ _ _ _) (HO5.out _ _ _ _ _))
        simp [results, Try.results43, go_sem, f0, f1, f2, f3, f4]
      · have HF : Hid (∀ x, Below w.heap.size w x → DecR w b (.returned (.tuple #[clA zeroC (.slice none 0 0), .int .i64 8])) x) := hide (fun x hb => ⟨hb, .inl ⟨by rw [HDEC.out, if_neg (fun hh => hEN hh.2)], rfl⟩⟩)
        clear hm HDEC hb5 ho hel
        generalize encC ⟨n0, n1, n2, n3, D⟩ = EN at *
        have hEN2 : (EN == b) = false := by simp [hEN]
        go_wp2
        refine bodyPost_ret (v := .tuple #[clA zeroC (.slice none 0 0), .int .i64 8]) ?_ rfl (HF.out _ (HS5.out _ _ _ _ _))
        simp [results, Try.results43, go_sem, f0, f1, f2, f3, f4]
  refine wp_region_held_drew (S := fun W' => Below (w.alloc (.cells #[.int .u64 0, .int .u64 0, .int .i64 0, .int .i64 0, .slice none 0 0] 90)).heap.size (w.alloc (.cells #[.int .u64 0, .int .u64 0, .int .i64 0, .int .i64 0, .slice none 0 0] 90)) W') (by kernel_rfl) (Below.refl _ _).drew (fun hHeld => ?_)
  refine wpAnyH_take (i := 0) (v := ?_) rfl (by kernel_rfl) (by kernel_rfl) (by kernel_rfl) (fun _ _ _ h => h) (Or.inl ⟨by kernel_rfl, ?_⟩) hHeld ?_
  rotate_left
  · intro W hSw
    clear hSw
    go_simp <;> with_reducible rfl
  simp only [Act.put, List.getElem_toArray, List.getElem_cons_zero, List.getElem_cons_succ, List.setIfInBounds_toArray, List.set_cons_zero, List.set_cons_succ]
  refine wpAnyH_take (i := 1) (v := ?_) rfl (by kernel_rfl) (by kernel_rfl) (by kernel_rfl) (fun _ _ _ h => h) (Or.inl ⟨by kernel_rfl, ?_⟩) hHeld ?_
  rotate_left
  · intro W hSw
    clear hSw
    go_simp <;> with_reducible rfl
  simp only [Act.put, List.getElem_toArray, List.getElem_cons_zero, List.getElem_cons_succ, List.setIfInBounds_toArray, List.set_cons_zero, List.set_cons_succ]
  refine wpAnyH_take (i := 3) (v := ?_) rfl (by kernel_rfl) (by kernel_rfl) (by kernel_rfl) (fun _ _ _ h => h) (Or.inl ⟨by kernel_rfl, ?_⟩) hHeld ?_
  rotate_left
  · intro W hSw
    clear hSw
    go_simp <;> with_reducible rfl
  simp only [Act.put, List.getElem_toArray, List.getElem_cons_zero, List.getElem_cons_succ, List.setIfInBounds_toArray, List.set_cons_zero, List.set_cons_succ]
  refine wpAnyH_take (i := 4) (v := ?_) rfl (by kernel_rfl) (by kernel_rfl) (by kernel_rfl) (fun _ _ _ h => h) (Or.inl ⟨by kernel_rfl, ?_⟩) hHeld ?_
  rotate_left
  · intro W hSw
    clear hSw
    go_simp <;> with_reducible rfl
  simp only [Act.put, List.getElem_toArray, List.getElem_cons_zero, List.getElem_cons_succ, List.setIfInBounds_toArray, List.set_cons_zero, List.set_cons_succ]
  refine wpAnyH_take (i := 6) (v := ?_) rfl (by kernel_rfl) (by kernel_rfl) (by kernel_rfl) (fun _ _ _ h => h) (Or.inl ⟨by kernel_rfl, ?_⟩) hHeld ?_
  rotate_left
  · intro W hSw
    clear hSw
    go_simp <;> with_reducible rfl
  simp only [Act.put, List.getElem_toArray, List.getElem_cons_zero, List.getElem_cons_succ, List.setIfInBounds_toArray, List.set_cons_zero, List.set_cons_succ]
  refine wpAnyH_take (i := 7) (v := ?_) rfl (by kernel_rfl) (by kernel_rfl) (by kernel_rfl) (fun _ _ _ h => h) (Or.inl ⟨by kernel_rfl, ?_⟩) hHeld ?_
  rotate_left
  · intro W hSw
    clear hSw
    go_simp <;> with_reducible rfl
  simp only [Act.put, List.getElem_toArray, List.getElem_cons_zero, List.getElem_cons_succ, List.setIfInBounds_toArray, List.set_cons_zero, List.set_cons_succ]
  refine wpAnyH_take (i := 10) (v := ?_) rfl (by kernel_rfl) (by kernel_rfl) (by kernel_rfl) (fun _ _ _ h => h) (Or.inl ⟨by kernel_rfl, ?_⟩) hHeld ?_
  rotate_left
  · intro W hSw
    clear hSw
    go_simp <;> with_reducible rfl
  simp only [Act.put, List.getElem_toArray, List.getElem_cons_zero, List.getElem_cons_succ, List.setIfInBounds_toArray, List.set_cons_zero, List.set_cons_succ]
  refine wpAnyH_take (i := 11) (v := ?_) rfl (by kernel_rfl) (by kernel_rfl) (by kernel_rfl) (fun _ _ _ h => h) (Or.inl ⟨by kernel_rfl, ?_⟩) hHeld ?_
  rotate_left
  · intro W hSw
    clear hSw
    go_simp <;> with_reducible rfl
  simp only [Act.put, List.getElem_toArray, List.getElem_cons_zero, List.getElem_cons_succ, List.setIfInBounds_toArray, List.set_cons_zero, List.set_cons_succ]
  refine wpAnyH_ready (rs := [2, 15]) (by kernel_rfl) (by simp) ?_
  refine AllReadyH.cons rfl (fun K hK => ?_) (AllReadyH.cons rfl (fun K hK => ?_) AllReadyH.nil)
  · go_simp
    go_wp2_with (first | (go_at_call 63; refine ((HN.out _ (B1.out.trans (hHeld.mono B1.out.size))).1).mono ?_; rintro e y ⟨rfl, rfl⟩))
    refine hK.out _ _ ?_ (fun hHeld => ?_)
    · exact hHeld
    clear hK K
    try simp only [Act.put, List.getElem_toArray, List.getElem_cons_zero, List.getElem_cons_succ, List.setIfInBounds_toArray, List.set_cons_zero, List.set_cons_succ]
    refine wpAnyH_ready (rs := [5, 15]) (by kernel_rfl) (by simp) ?_
    refine AllReadyH.cons rfl (fun K hK => ?_) (AllReadyH.cons rfl (fun K hK => ?_) AllReadyH.nil)
    · go_simp
      go_wp2_with (first | (go_at_call 63; refine ((HN.out _ (B1.out.trans (hHeld.mono B1.out.size))).2.1).mono ?_; rintro e y ⟨rfl, rfl⟩))
      refine hK.out _ _ ?_ (fun hHeld => ?_)
      · exact hHeld
      clear hK K
      try simp only [Act.put, List.getElem_toArray, List.getElem_cons_zero, List.getElem_cons_succ, List.setIfInBounds_toArray, List.set_cons_zero, List.set_cons_succ]
      refine wpAnyH_ready (rs := [8, 15]) (by kernel_rfl) (by simp) ?_
      refine AllReadyH.cons rfl (fun K hK => ?_) (AllReadyH.cons rfl (fun K hK => ?_) AllReadyH.nil)
      · go_simp
        go_wp2_with (first | (go_at_call 63; refine ((HN.out _ (B1.out.trans (hHeld.mono B1.out.size))).2.2.1).mono ?_; rintro e y ⟨rfl, rfl⟩))
        refine hK.out _ _ ?_ (fun hHeld => ?_)
        · exact hHeld
        clear hK K
        try simp only [Act.put, List.getElem_toArray, List.getElem_cons_zero, List.getElem_cons_succ, List.setIfInBounds_toArray, List.set_cons_zero, List.set_cons_succ]
        refine wpAnyH_take (i := 9) (v := ?_) rfl (by kernel_rfl) (by kernel_rfl) (by kernel_rfl) (fun _ _ _ h => h) (Or.inl ⟨by kernel_rfl, ?_⟩) hHeld ?_
        rotate_left
        · intro W hSw
          clear hSw
          go_simp <;> with_reducible rfl
        simp only [Act.put, List.getElem_toArray, List.getElem_cons_zero, List.getElem_cons_succ, List.setIfInBounds_toArray, List.set_cons_zero, List.set_cons_succ]
        refine wpAnyH_ready (rs := [12, 15]) (by kernel_rfl) (by simp) ?_
        refine AllReadyH.cons rfl (fun K hK => ?_) (AllReadyH.cons rfl (fun K hK => ?_) AllReadyH.nil)
        · go_simp
          go_wp2_with (first | (go_at_call 63; refine ((HN.out _ (B1.out.trans (hHeld.mono B1.out.size))).2.2.2).mono ?_; rintro e y ⟨rfl, rfl⟩))
          refine hK.out _ _ ?_ (fun hHeld => ?_)
          · exact hHeld
          clear hK K
          try simp only [Act.put, List.getElem_toArray, List.getElem_cons_zero, List.getElem_cons_succ, List.setIfInBounds_toArray, List.set_cons_zero, List.set_cons_succ]
          refine wpAnyH_take (i := 13) (v := ?_) rfl (by kernel_rfl) (by kernel_rfl) (by kernel_rfl) (fun _ _ _ h => h) (Or.inl ⟨by kernel_rfl, ?_⟩) hHeld ?_
          rotate_left
          · intro W hSw
            clear hSw
            go_simp <;> with_reducible rfl
          simp only [Act.put, List.getElem_toArray, List.getElem_cons_zero, List.getElem_cons_succ, List.setIfInBounds_toArray, List.set_cons_zero, List.set_cons_succ]
          refine wpAnyH_take (i := 14) (v := ?_) rfl (by kernel_rfl) (by kernel_rfl) (by kernel_rfl) (fun _ _ _ h => h) (Or.inl ⟨by kernel_rfl, ?_⟩) hHeld ?_
          rotate_left
          · intro W hSw
            clear hSw
            go_simp <;> with_reducible rfl
          simp only [Act.put, List.getElem_toArray, List.getElem_cons_zero, List.getElem_cons_succ, List.setIfInBounds_toArray, List.set_cons_zero, List.set_cons_succ]
          refine wpAnyH_ready (rs := [15]) (by kernel_rfl) (by simp) ?_
          refine AllReadyH.cons rfl (fun K hK => ?_) AllReadyH.nil
          go_simp
          refine hK.out _ _ ?_ (fun hHeld => ?_)
          · exact hHeld.alloc (Nat.le_refl _) _
          clear hK K
          try simp only [Act.put, List.getElem_toArray, List.getElem_cons_zero, List.getElem_cons_succ, List.setIfInBounds_toArray, List.set_cons_zero, List.set_cons_succ]
          refine wpAnyH_ready (rs := [16]) (by kernel_rfl) (by simp) ?_
          refine AllReadyH.cons rfl (fun K hK => ?_) AllReadyH.nil
          go_simp
          refine hK.out _ _ ?_ (fun hHeld => ?_)
          · exact ((Below.refl _ _).alloc (Nat.le_refl _) _).drew
          clear hK K
          try simp only [Act.put, List.getElem_toArray, List.getElem_cons_zero, List.getElem_cons_succ, List.setIfInBounds_toArray, List.set_cons_zero, List.set_cons_succ]
          refine wpAnyH_done (by kernel_rfl) ?_ _
          exact HREST
        · go_simp
          refine hK.out _ _ ?_ (fun hHeld => ?_)
          · exact hHeld.alloc (Nat.le_refl _) _
          clear hK K
          try simp only [Act.put, List.getElem_toArray, List.getElem_cons_zero, List.getElem_cons_succ, List.setIfInBounds_toArray, List.set_cons_zero, List.set_cons_succ]
          refine wpAnyH_ready (rs := [12]) (by kernel_rfl) (by simp) ?_
          refine AllReadyH.cons rfl (fun K hK => ?_) AllReadyH.nil
          go_simp
          go_wp2_with (first | (go_at_call 63; refine ((HN.out _ (B1.out.trans (hHeld.mono B1.out.size))).2.2.2).mono ?_; rintro e y ⟨rfl, rfl⟩))
          refine hK.out _ _ ?_ (fun hHeld => ?_)
          · exact hHeld
          clear hK K
          try simp only [Act.put, List.getElem_toArray, List.getElem_cons_zero, List.getElem_cons_succ, List.setIfInBounds_toArray, List.set_cons_zero, List.set_cons_succ]
          refine wpAnyH_take (i := 13) (v := ?_) rfl (by kernel_rfl) (by kernel_rfl) (by kernel_rfl) (fun _ _ _ h => h) (Or.inl ⟨by kernel_rfl, ?_⟩) hHeld ?_
          rotate_left
          · intro W hSw
            clear hSw
            go_simp <;> with_reducible rfl
          simp only [Act.put, List.getElem_toArray, List.getElem_cons_zero, List.getElem_cons_succ, List.setIfInBounds_toArray, List.set_cons_zero, List.set_cons_succ]
          refine wpAnyH_take (i := 14) (v := ?_) rfl (by kernel_rfl) (by kernel_rfl) (by kernel_rfl) (fun _ _ _ h => h) (Or.inl ⟨by kernel_rfl, ?_⟩) hHeld ?_
          rotate_left
          · intro W hSw
            clear hSw
            go_simp <;> with_reducible rfl
          simp only [Act.put, List.getElem_toArray, List.getElem_cons_zero, List.getElem_cons_succ, List.setIfInBounds_toArray, List.set_cons_zero, List.set_cons_succ]
          refine wpAnyH_ready (rs := [16]) (by kernel_rfl) (by simp) ?_
          refine AllReadyH.cons rfl (fun K hK => ?_) AllReadyH.nil
          go_simp
          refine hK.out _ _ ?_ (fun hHeld => ?_)
          · exact ((Below.refl _ _).alloc (Nat.le_refl _) _).drew
          clear hK K
          try simp only [Act.put, List.getElem_toArray, List.getElem_cons_zero, List.getElem_cons_succ, List.setIfInBounds_toArray, List.set_cons_zero, List.set_cons_succ]
          refine wpAnyH_done (by kernel_rfl) ?_ _
          exact HREST
      · go_simp
        refine hK.out _ _ ?_ (fun hHeld => ?_)
        · exact hHeld.alloc (Nat.le_refl _) _
        clear hK K
        try simp only [Act.put, List.getElem_toArray, List.getElem_cons_zero, List.getElem_cons_succ, List.setIfInBounds_toArray, List.set_cons_zero, List.set_cons_succ]
        refine wpAnyH_ready (rs := [8]) (by kernel_rfl) (by simp) ?_
        refine AllReadyH.cons rfl (fun K hK => ?_) AllReadyH.nil
        go_simp
        go_wp2_with (first | (go_at_call 63; refine ((HN.out _ (B1.out.trans (hHeld.mono B1.out.size))).2.2.1).mono ?_; rintro e y ⟨rfl, rfl⟩))
        refine hK.out _ _ ?_ (fun hHeld => ?_)
        · exact hHeld
        clear hK K
        try simp only [Act.put, List.getElem_toArray, List.getElem_cons_zero, List.getElem_cons_succ, List.setIfInBounds_toArray, List.set_cons_zero, List.set_cons_succ]
        refine wpAnyH_take (i := 9) (v := ?_) rfl (by kernel_rfl) (by kernel_rfl) (by kernel_rfl) (fun _ _ _ h => h) (Or.inl ⟨by kernel_rfl, ?_⟩) hHeld ?_
        rotate_left
        · intro W hSw
          clear hSw
          go_simp <;> with_reducible rfl
        simp only [Act.put, List.getElem_toArray, List.getElem_cons_zero, List.getElem_cons_succ, List.setIfInBounds_toArray, List.set_cons_zero, List.set_cons_succ]
        refine wpAnyH_ready (rs := [12]) (by kernel_rfl) (by simp) ?_
        refine AllReadyH.cons rfl (fun K hK => ?_) AllReadyH.nil
        go_simp
        go_wp2_with (first | (go_at_call 63; refine ((HN.out _ (B1.out.trans (hHeld.mono B1.out.size))).2.2.2).mono ?_; rintro e y ⟨rfl, rfl⟩))
        refine hK.out _ _ ?_ (fun hHeld => ?_)
        · exact hHeld
        clear hK K
        try simp only [Act.put, List.getElem_toArray, List.getElem_cons_zero, List.getElem_cons_succ, List.setIfInBounds_toArray, List.set_cons_zero, List.set_cons_succ]
        refine wpAnyH_take (i := 13) (v := ?_) rfl (by kernel_rfl) (by kernel_rfl) (by kernel_rfl) (fun _ _ _ h => h) (Or.inl ⟨by kernel_rfl, ?_⟩) hHeld ?_
        rotate_left
        · intro W hSw
          clear hSw
          go_simp <;> with_reducible rfl
        simp only [Act.put, List.getElem_toArray, List.getElem_cons_zero, List.getElem_cons_succ, List.setIfInBounds_toArray, List.set_cons_zero, List.set_cons_succ]
        refine wpAnyH_take (i := 14) (v := ?_) rfl (by kernel_rfl) (by kernel_rfl) (by kernel_rfl) (fun _ _ _ h => h) (Or.inl ⟨by kernel_rfl, ?_⟩) hHeld ?_
        rotate_left
        · intro W hSw
          clear hSw
          go_simp <;> with_reducible rfl
        simp only [Act.put, List.getElem_toArray, List.getElem_cons_zero, List.getElem_cons_succ, List.setIfInBounds_toArray, List.set_cons_zero, List.set_cons_succ]
        refine wpAnyH_ready (rs := [16]) (by kernel_rfl) (by simp) ?_
        refine AllReadyH.cons rfl (fun K hK => ?_) AllReadyH.nil
        go_simp
        refine hK.out _ _ ?_ (fun hHeld => ?_)
        · exact ((Below.refl _ _).alloc (Nat.le_refl _) _).drew
        clear hK K
        try simp only [Act.put, List.getElem_toArray, List.getElem_cons_zero, List.getElem_cons_succ, List.setIfInBounds_toArray, List.set_cons_zero, List.set_cons_succ]
        refine wpAnyH_done (by kernel_rfl) ?_ _
        exact HREST
    · go_simp
      refine hK.out _ _ ?_ (fun hHeld => ?_)
      · exact hHeld.alloc (Nat.le_refl _) _
      clear hK K
      try simp only [Act.put, List.getElem_toArray, List.getElem_cons_zero, List.getElem_cons_succ, List.setIfInBounds_toArray, List.set_cons_zero, List.set_cons_succ]
      refine wpAnyH_ready (rs := [5]) (by kernel_rfl) (by simp) ?_
      refine AllReadyH.cons rfl (fun K hK => ?_) AllReadyH.nil
      go_simp
      go_wp2_with (first | (go_at_call 63; refine ((HN.out _ (B1.out.trans (hHeld.mono B1.out.size))).2.1).mono ?_; rintro e y ⟨rfl, rfl⟩))
      refine hK.out _ _ ?_ (fun hHeld => ?_)
      · exact hHeld
      clear hK K
      try simp only [Act.put, List.getElem_toArray, List.getElem_cons_zero, List.getElem_cons_succ, List.setIfInBounds_toArray, List.set_cons_zero, List.set_cons_succ]
      refine wpAnyH_ready (rs := [8]) (by kernel_rfl) (by simp) ?_
      refine AllReadyH.cons rfl (fun K hK => ?_) AllReadyH.nil
      go_simp
      go_wp2_with (first | (go_at_call 63; refine ((HN.out _ (B1.out.trans (hHeld.mono B1.out.size))).2.2.1).mono ?_; rintro e y ⟨rfl, rfl⟩))
      refine hK.out _ _ ?_ (fun hHeld => ?_)
      · exact hHeld
      clear hK K
      try simp only [Act.put, List.getElem_toArray, List.getElem_cons_zero, List.getElem_cons_succ, List.setIfInBounds_toArray, List.set_cons_zero, List.set_cons_succ]
      refine wpAnyH_take (i := 9) (v := ?_) rfl (by kernel_rfl) (by kernel_rfl) (by kernel_rfl) (fun _ _ _ h => h) (Or.inl ⟨by kernel_rfl, ?_⟩) hHeld ?_
      rotate_left
      · intro W hSw
        clear hSw
        go_simp <;> with_reducible rfl
      simp only [Act.put, List.getElem_toArray, List.getElem_cons_zero, List.getElem_cons_succ, List.setIfInBounds_toArray, List.set_cons_zero, List.set_cons_succ]
      refine wpAnyH_ready (rs := [12]) (by kernel_rfl) (by simp) ?_
      refine AllReadyH.cons rfl (fun K hK => ?_) AllReadyH.nil
      go_simp
      go_wp2_with (first | (go_at_call 63; refine ((HN.out _ (B1.out.trans (hHeld.mono B1.out.size))).2.2.2).mono ?_; rintro e y ⟨rfl, rfl⟩))
      refine hK.out _ _ ?_ (fun hHeld => ?_)
      · exact hHeld
      clear hK K
      try simp only [Act.put, List.getElem_toArray, List.getElem_cons_zero, List.getElem_cons_succ, List.setIfInBounds_toArray, List.set_cons_zero, List.set_cons_succ]
      refine wpAnyH_take (i := 13) (v := ?_) rfl (by kernel_rfl) (by kernel_rfl) (by kernel_rfl) (fun _ _ _ h => h) (Or.inl ⟨by kernel_rfl, ?_⟩) hHeld ?_
      rotate_left
      · intro W hSw
        clear hSw
        go_simp <;> with_reducible rfl
      simp only [Act.put, List.getElem_toArray, List.getElem_cons_zero, List.getElem_cons_succ, List.setIfInBounds_toArray, List.set_cons_zero, List.set_cons_succ]
      refine wpAnyH_take (i := 14) (v := ?_) rfl (by kernel_rfl) (by kernel_rfl) (by kernel_rfl) (fun _ _ _ h => h) (Or.inl ⟨by kernel_rfl, ?_⟩) hHeld ?_
      rotate_left
      · intro W hSw
        clear hSw
        go_simp <;> with_reducible rfl
      simp only [Act.put, List.getElem_toArray, List.getElem_cons_zero, List.getElem_cons_succ, List.setIfInBounds_toArray, List.set_cons_zero, List.set_cons_succ]
      refine wpAnyH_ready (rs := [16]) (by kernel_rfl) (by simp) ?_
      refine AllReadyH.cons rfl (fun K hK => ?_) AllReadyH.nil
      go_simp
      refine hK.out _ _ ?_ (fun hHeld => ?_)
      · exact ((Below.refl _ _).alloc (Nat.le_refl _) _).drew
      clear hK K
      try simp only [Act.put, List.getElem_toArray, List.getElem_cons_zero, List.getElem_cons_succ, List.setIfInBounds_toArray, List.set_cons_zero, List.set_cons_succ]
      refine wpAnyH_done (by kernel_rfl) ?_ _
      exact HREST
  · go_simp
    refine hK.out _ _ ?_ (fun hHeld => ?_)
    · exact hHeld.alloc (Nat.le_refl _) _
    clear hK K
    try simp only [Act.put, List.getElem_toArray, List.getElem_cons_zero, List.getElem_cons_succ, List.setIfInBounds_toArray, List.set_cons_zero, List.set_cons_succ]
    refine wpAnyH_ready (rs := [2]) (by kernel_rfl) (by simp) ?_
    refine AllReadyH.cons rfl (fun K hK => ?_) AllReadyH.nil
    go_simp
    go_wp2_with (first | (go_at_call 63; refine ((HN.out _ (B1.out.trans (hHeld.mono B1.out.size))).1).mono ?_; rintro e y ⟨rfl, rfl⟩))
    refine hK.out _ _ ?_ (fun hHeld => ?_)
    · exact hHeld
    clear hK K
    try simp only [Act.put, List.getElem_toArray, List.getElem_cons_zero, List.getElem_cons_succ, List.setIfInBounds_toArray, List.set_cons_zero, List.set_cons_succ]
    refine wpAnyH_ready (rs := [5]) (by kernel_rfl) (by simp) ?_
    refine AllReadyH.cons rfl (fun K hK => ?_) AllReadyH.nil
    go_simp
    go_wp2_with (first | (go_at_call 63; refine ((HN.out _ (B1.out.trans (hHeld.mono B1.out.size))).2.1).mono ?_; rintro e y ⟨rfl, rfl⟩))
    refine hK.out _ _ ?_ (fun hHeld => ?_)
    · exact hHeld
    clear hK K
    try simp only [Act.put, List.getElem_toArray, List.getElem_cons_zero, List.getElem_cons_succ, List.setIfInBounds_toArray, List.set_cons_zero, List.set_cons_succ]
    refine wpAnyH_ready (rs := [8]) (by kernel_rfl) (by simp) ?_
    refine AllReadyH.cons rfl (fun K hK => ?_) AllReadyH.nil
    go_simp
    go_wp2_with (first | (go_at_call 63; refine ((HN.out _ (B1.out.trans (hHeld.mono B1.out.size))).2.2.1).mono ?_; rintro e y ⟨rfl, rfl⟩))
    refine hK.out _ _ ?_ (fun hHeld => ?_)
    · exact hHeld
    clear hK K
    try simp only [Act.put, List.getElem_toArray, List.getElem_cons_zero, List.getElem_cons_succ, List.setIfInBounds_toArray, List.set_cons_zero, List.set_cons_succ]
    refine wpAnyH_take (i := 9) (v := ?_) rfl (by kernel_rfl) (by kernel_rfl) (by kernel_rfl) (fun _ _ _ h => h) (Or.inl ⟨by kernel_rfl, ?_⟩) hHeld ?_
    rotate_left
    · intro W hSw
      clear hSw
      go_simp <;> with_reducible rfl
    simp only [Act.put, List.getElem_toArray, List.getElem_cons_zero, List.getElem_cons_succ, List.setIfInBounds_toArray, List.set_cons_zero, List.set_cons_succ]
    refine wpAnyH_ready (rs := [12]) (by kernel_rfl) (by simp) ?_
    refine AllReadyH.cons rfl (fun K hK => ?_) AllReadyH.nil
    go_simp
    go_wp2_with (first | (go_at_call 63; refine ((HN.out _ (B1.out.trans (hHeld.mono B1.out.size))).2.2.2).mono ?_; rintro e y ⟨rfl, rfl⟩))
    refine hK.out _ _ ?_ (fun hHeld => ?_)
    · exact hHeld
    clear hK K
    try simp only [Act.put, List.getElem_toArray, List.getElem_cons_zero, List.getElem_cons_succ, List.setIfInBounds_toArray, List.set_cons_zero, List.set_cons_succ]
    refine wpAnyH_take (i := 13) (v := ?_) rfl (by kernel_rfl) (by kernel_rfl) (by kernel_rfl) (fun _ _ _ h => h) (Or.inl ⟨by kernel_rfl, ?_⟩) hHeld ?_
    rotate_left
    · intro W hSw
      clear hSw
      go_simp <;> with_reducible rfl
    simp only [Act.put, List.getElem_toArray, List.getElem_cons_zero, List.getElem_cons_succ, List.setIfInBounds_toArray, List.set_cons_zero, List.set_cons_succ]
    refine wpAnyH_take (i := 14) (v := ?_) rfl (by kernel_rfl) (by kernel_rfl) (by kernel_rfl) (fun _ _ _ h => h) (Or.inl ⟨by kernel_rfl, ?_⟩) hHeld ?_
    rotate_left
    · intro W hSw
      clear hSw
      go_simp <;> with_reducible rfl
    simp only [Act.put, List.getElem_toArray, List.getElem_cons_zero, List.getElem_cons_succ, List.setIfInBounds_toArray, List.set_cons_zero, List.set_cons_succ]
    refine wpAnyH_ready (rs := [16]) (by kernel_rfl) (by simp) ?_
    refine AllReadyH.cons rfl (fun K hK => ?_) AllReadyH.nil
    go_simp
    refine hK.out _ _ ?_ (fun hHeld => ?_)
    · exact ((Below.refl _ _).alloc (Nat.le_refl _) _).drew
    clear hK K
    try simp only [Act.put, List.getElem_toArray, List.getElem_cons_zero, List.getElem_cons_succ, List.setIfInBounds_toArray, List.set_cons_zero, List.set_cons_succ]
    refine wpAnyH_done (by kernel_rfl) ?_ _
    exact HREST
end Go.Proofs.Ythpepkfodcgbcaa
