import Derived.Test.YthpepkfodcgbcaaWq23
import Derived.Test.YthpepkfodcgbcaaWq09
/- What the program's Decode answers. -/
set_option linter.unusedVariables false
set_option linter.unusedSimpArgs false
set_option maxRecDepth 40000
namespace Go.Proofs.Ythpepkfodcgbcaa
open Go.RowKit

def PDecR (w : World) (b : Bs) (e : Ending) (w' : World) : Prop := Below w.heap.size w w' ∧ ((decC b = none ∧ ∃ a k, e = .returned (.tuple #[clA zeroC (.slice a 0 k), .int .i64 8])) ∨ ∃ c a k, decC b = some c ∧ e = .returned (.tuple #[clA c (.slice a c.data.length k), .int .i64 0]) ∧ IsC w' c (.slice a c.data.length k))
def PDecN (w : World) (b : Bs) (bv : Value) (e : Ending) (w' : World) : Prop := PDecR w b e w' ∧ ∀ c dv n, e = .returned (.tuple #[clA c dv, n]) → ∀ k, dv.ownBlock = some k → w.heap.size ≤ k ∧ k < w'.heap.size
theorem pdec_no {w x : World} {b : Bs} {bv : Value} (hb : Below w.heap.size w x) (hd : decC b = none) : PDecN w b bv (.returned (.tuple #[clA zeroC (.slice none 0 0), .int .i64 8])) x := ⟨⟨hb, .inl ⟨hd, _, _, rfl⟩⟩, fun c dv n e k hk => by
  simp at e
  rw [← e.1.2.2.2.2] at hk
  cases hk⟩
theorem pdec_yes {w x : World} {b : Bs} {bv : Value} {c : CL} {a : Option Addr} {k : Nat} (hb : Below w.heap.size w x) (hd : decC b = some c) (hi : IsC x c (.slice a c.data.length k)) (hv : NewV w x (.slice a c.data.length k)) : PDecN w b bv (.returned (.tuple #[clA c (.slice a c.data.length k), .int .i64 0])) x := ⟨⟨hb, .inr ⟨c, a, k, hd, rfl, hi⟩⟩, fun c' dv n e j hj => by
  simp at e
  rw [← e.1.2.2.2.2] at hj
  exact hv j hj⟩
set_option maxHeartbeats 4000000 in
theorem pdec_short (bv : Value) (b : Bs) (w : World) (hY : IsY w bv b) (hl : b.length ≤ 1000000) (h : b.length ≠ 64) : Calls Try.prog 61 #[bv] w (PDecN w b bv) := by
  have HF : Hid (∀ x, Below w.heap.size w x → PDecN w b bv (.returned (.tuple #[clA zeroC (.slice none 0 0), .int .i64 8])) x) := hide (fun x hb => pdec_no hb (dec_short h))
  have BB := hide (below_alloc w)
  obtain ⟨a, c, rfl⟩ := hY.form
  have h2 : ¬ (b.length : Int) = 64 := by omega
  clear hY h
  generalize b.length = n at *
  go_enter Try.func61, Try.ntmps61
  go_wp2
  refine bodyPost_ret (v := .tuple #[clA zeroC (.slice none 0 0), .int .i64 8]) ?_ rfl (HF.out _ (BB.out _))
  simp [results, Try.results61, go_sem]
set_option maxHeartbeats 4000000 in
theorem pdec_long (bv : Value) (b : Bs) (w : World) (hY : IsY w bv b) (h : b.length = 64) (h3 : 39 < (b[20]'(by omega)).toNat) : Calls Try.prog 61 #[bv] w (PDecN w b bv) := by
  have HF : Hid (∀ x, Below w.heap.size w x → PDecN w b bv (.returned (.tuple #[clA zeroC (.slice none 0 0), .int .i64 8])) x) := hide (fun x hb => pdec_no hb (dec_long h h3))
  have BB := hide (below_alloc w)
  rcases hY with ⟨e, _⟩ | ⟨bb, bo, cap, rfl, hcap, hh⟩
  · rw [e] at h; cases h
  have hc := hh 20 (by omega)
  have hc1 : ∀ o, (w.alloc o).cell? ⟨bb, bo + 20, none⟩ = some (.int .u8 ((b[20]'(by omega)).toNat : Int)) := fun o => ((below_alloc w o).cell (cell_lt hc)).trans hc
  rw [h] at *
  clear hh hc
  generalize (b[20]'(by omega)).toNat = x at *
  have h4 : (39 : Int) < (x : Int) := by omega
  go_enter Try.func61, Try.ntmps61
  go_wp2
  refine bodyPost_ret (v := .tuple #[clA zeroC (.slice none 0 0), .int .i64 8]) ?_ rfl (HF.out _ (BB.out _))
  simp [results, Try.results61, go_sem]
/-- What stands when the cell has been read. -/
structure DecP (w x : World) (n0 n1 n2 n3 : Nat) (D : Bs) (dv : Value) (bx : Nat) : Prop where
  b : Below w.heap.size w x
  r : x.heap[w.heap.size]? = some (.cells (clC zeroC (.slice none 0 0)) 90 (0, 0))
  c : x.heap[bx]? = some (.cells #[.int .u64 (n0 : Int), .int .u64 (n1 : Int), .int .i64 (n2 : Int), .int .i64 (n3 : Int), dv] 90 (0, 0))
  i : IsC x ⟨n0, n1, n2, n3, D⟩ dv
  v : ∀ k, dv.ownBlock = some k → w.heap.size < k ∧ k < x.heap.size
  g : w.heap.size < bx
abbrev zr : Obj := .cells (clC zeroC (.slice none 0 0)) 90 (0, 0)
theorem heap_set1 {w : World} {g : Nat} {C : Array Value} {t : TypeId} (h : w.heap[g]? = some (.cells C t (0, 0))) (o : Nat) (v : Value) : (w.setCell ⟨g, o, none⟩ v).heap[g]? = some (.cells (C.setIfInBounds o v) t (0, 0)) := by
  rw [setCell_eq_setRow w g o _ t _ _ h, setRow_heap w g _ _ t _ h]
abbrev zObj : Obj := (.cells #[.int .u64 0, .int .u64 0, .int .i64 0, .int .i64 0, .slice none 0 0] 90)
theorem decp_early {w y : World} {n0 n1 n2 n3 : Nat} {D : Bs} {da : Option Addr} {dc x : Nat} (hb : Below ((w.alloc zObj).alloc zObj).drew.heap.size ((w.alloc zObj).alloc zObj).drew y) (hi : IsY y (.slice da x dc) D) (hn : NewV ((w.alloc zObj).alloc zObj).drew y (.slice da x dc)) (hN : n0 < 18446744073709551616 ∧ n1 < 18446744073709551616 ∧ n2 < 65536 ∧ n3 < 65536) :
    (y.cell? ⟨w.heap.size + 1, 0, none⟩ = some (.int .u64 0) ∧ y.cell? ⟨w.heap.size + 1, 1, none⟩ = some (.int .u64 0) ∧ y.cell? ⟨w.heap.size + 1, 2, none⟩ = some (.int .i64 0) ∧ y.cell? ⟨w.heap.size + 1, 3, none⟩ = some (.int .i64 0) ∧ y.cell? ⟨w.heap.size + 1, 4, none⟩ = some (.slice none 0 0) ∧ ∀ j, y.frozen? ⟨w.heap.size + 1, j, none⟩ = false) ∧
    DecP w (((((y.setCell ⟨w.heap.size + 1, 0, none⟩ (.int .u64 (n0 : Int))).setCell ⟨w.heap.size + 1, 1, none⟩ (.int .u64 (n1 : Int))).setCell ⟨w.heap.size + 1, 2, none⟩ (.int .i64 (n2 : Int))).setCell ⟨w.heap.size + 1, 3, none⟩ (.int .i64 (n3 : Int))).setCell ⟨w.heap.size + 1, 4, none⟩ (.slice da x dc)) n0 n1 n2 n3 D (.slice da x dc) (w.heap.size + 1) ∧
    Below (w.alloc zObj).heap.size (w.alloc zObj) (((((y.setCell ⟨w.heap.size + 1, 0, none⟩ (.int .u64 (n0 : Int))).setCell ⟨w.heap.size + 1, 1, none⟩ (.int .u64 (n1 : Int))).setCell ⟨w.heap.size + 1, 2, none⟩ (.int .i64 (n2 : Int))).setCell ⟨w.heap.size + 1, 3, none⟩ (.int .i64 (n3 : Int))).setCell ⟨w.heap.size + 1, 4, none⟩ (.slice da x dc)) := by
  obtain ⟨p0, p1, p2, p3⟩ := hN
  have hs1 : (w.alloc zObj).heap.size = w.heap.size + 1 := by simp
  have hs2 : ((w.alloc zObj).alloc zObj).drew.heap.size = w.heap.size + 2 := by
    show ((w.alloc zObj).alloc zObj).heap.size = _
    simp
  have hA := below_alloc w zObj
  have hB := below_alloc (w.alloc zObj) zObj
  have hr : ((w.alloc zObj).alloc zObj).drew.heap[w.heap.size]? = some zr := (hB.block w.heap.size (by omega)).trans (alloc_newC w _)
  have hc : ((w.alloc zObj).alloc zObj).drew.heap[w.heap.size + 1]? = some zr := by
    have h1 := alloc_newC (w.alloc zObj) zObj
    rw [hs1] at h1
    exact h1
  have hry : y.heap[w.heap.size]? = some zr := (hb.block _ (by omega)).trans hr
  have hcy : y.heap[w.heap.size + 1]? = some zr := (hb.block _ (by omega)).trans hc
  have hby : Below (w.alloc zObj).heap.size (w.alloc zObj) y := hB.drew.trans (hb.mono (by omega))
  have h5 : Below (w.alloc zObj).heap.size (w.alloc zObj) (((((y.setCell ⟨w.heap.size + 1, 0, none⟩ (.int .u64 (n0 : Int))).setCell ⟨w.heap.size + 1, 1, none⟩ (.int .u64 (n1 : Int))).setCell ⟨w.heap.size + 1, 2, none⟩ (.int .i64 (n2 : Int))).setCell ⟨w.heap.size + 1, 3, none⟩ (.int .i64 (n3 : Int))).setCell ⟨w.heap.size + 1, 4, none⟩ (.slice da x dc)) := ((((hby.setCell (by rw [hs1]; exact Nat.le_refl _) _).setCell (by rw [hs1]; exact Nat.le_refl _) _).setCell (by rw [hs1]; exact Nat.le_refl _) _).setCell (by rw [hs1]; exact Nat.le_refl _) _).setCell (by rw [hs1]; exact Nat.le_refl _) _
  have hoth : ∀ k, k ≠ w.heap.size + 1 → (((((y.setCell ⟨w.heap.size + 1, 0, none⟩ (.int .u64 (n0 : Int))).setCell ⟨w.heap.size + 1, 1, none⟩ (.int .u64 (n1 : Int))).setCell ⟨w.heap.size + 1, 2, none⟩ (.int .i64 (n2 : Int))).setCell ⟨w.heap.size + 1, 3, none⟩ (.int .i64 (n3 : Int))).setCell ⟨w.heap.size + 1, 4, none⟩ (.slice da x dc)).heap[k]? = y.heap[k]? := fun k hk => by
    rw [Below.heap_setCell _ _ _ _ hk, Below.heap_setCell _ _ _ _ hk, Below.heap_setCell _ _ _ _ hk, Below.heap_setCell _ _ _ _ hk, Below.heap_setCell _ _ _ _ hk]
  have q0 := heap_set1 hcy 0 (.int .u64 (n0 : Int))
  have q1 := heap_set1 q0 1 (.int .u64 (n1 : Int))
  have q2 := heap_set1 q1 2 (.int .i64 (n2 : Int))
  have q3 := heap_set1 q2 3 (.int .i64 (n3 : Int))
  have q4 := heap_set1 q3 4 (.slice da x dc)
  have hsz : y.heap.size ≤ (((((y.setCell ⟨w.heap.size + 1, 0, none⟩ (.int .u64 (n0 : Int))).setCell ⟨w.heap.size + 1, 1, none⟩ (.int .u64 (n1 : Int))).setCell ⟨w.heap.size + 1, 2, none⟩ (.int .i64 (n2 : Int))).setCell ⟨w.heap.size + 1, 3, none⟩ (.int .i64 (n3 : Int))).setCell ⟨w.heap.size + 1, 4, none⟩ (.slice da x dc)).heap.size := by simp [World.setCell]
  have hnk : ∀ k, (Value.slice da x dc).ownBlock = some k → w.heap.size + 2 ≤ k ∧ k < y.heap.size := fun k hk => by
    have := hn k hk
    rw [hs2] at this
    exact this
  refine ⟨⟨?_, ?_, ?_, ?_, ?_, fun j => ?_⟩, ⟨hA.trans (h5.mono hA.size), (hoth _ (by omega)).trans hry, q4, ⟨p0, p1, ⟨by show -9223372036854775808 ≤ (n2 : Int); omega, by show (n2 : Int) ≤ _; omega⟩, ⟨by show -9223372036854775808 ≤ (n3 : Int); omega, by show (n3 : Int) ≤ _; omega⟩, isY_keepC hi fun k hk => hoth k (by have := (hnk k hk).1; omega)⟩, fun k hk => ?_, by omega⟩, h5⟩
  · rw [cell_of_row y _ 0 _ _ _ hcy]; rfl
  · rw [cell_of_row y _ 1 _ _ _ hcy]; rfl
  · rw [cell_of_row y _ 2 _ _ _ hcy]; rfl
  · rw [cell_of_row y _ 3 _ _ _ hcy]; rfl
  · rw [cell_of_row y _ 4 _ _ _ hcy]; rfl
  · simp [World.frozen?, hcy]
  · have := hnk k hk
    omega
theorem decp_late {w y : World} {n0 n1 n2 n3 : Nat} {D : Bs} {da : Option Addr} {dc x : Nat} (hb : Below (w.alloc zObj).drew.heap.size (w.alloc zObj).drew y) (hi : IsY y (.slice da x dc) D) (hn : NewV (w.alloc zObj).drew y (.slice da x dc)) (hN : n0 < 18446744073709551616 ∧ n1 < 18446744073709551616 ∧ n2 < 65536 ∧ n3 < 65536) :
    DecP w (y.alloc (.cells #[.int .u64 (n0 : Int), .int .u64 (n1 : Int), .int .i64 (n2 : Int), .int .i64 (n3 : Int), .slice da x dc] 90)) n0 n1 n2 n3 D (.slice da x dc) y.heap.size ∧
    Below (w.alloc zObj).heap.size (w.alloc zObj) (y.alloc (.cells #[.int .u64 (n0 : Int), .int .u64 (n1 : Int), .int .i64 (n2 : Int), .int .i64 (n3 : Int), .slice da x dc] 90)) := by
  obtain ⟨p0, p1, p2, p3⟩ := hN
  have hs1 : (w.alloc zObj).heap.size = w.heap.size + 1 := by simp
  have hs2 : (w.alloc zObj).drew.heap.size = w.heap.size + 1 := hs1
  have hA := below_alloc w zObj
  have hby : Below (w.alloc zObj).heap.size (w.alloc zObj) y := (Below.refl _ _).drew.trans hb
  have hsy := hby.size
  have hal := below_alloc y (.cells #[.int .u64 (n0 : Int), .int .u64 (n1 : Int), .int .i64 (n2 : Int), .int .i64 (n3 : Int), .slice da x dc] 90)
  have h5 := hby.trans (hal.mono hsy)
  have hry : y.heap[w.heap.size]? = some zr := (hby.block _ (by omega)).trans (alloc_newC w _)
  refine ⟨⟨hA.trans (h5.mono hA.size), (hal.block _ (by omega)).trans hry, alloc_newC y _, ⟨p0, p1, ⟨by show -9223372036854775808 ≤ (n2 : Int); omega, by show (n2 : Int) ≤ _; omega⟩, ⟨by show -9223372036854775808 ≤ (n3 : Int); omega, by show (n3 : Int) ≤ _; omega⟩, hi.below hal⟩, fun k hk => ?_, by omega⟩, h5⟩
  have h6 := hn k hk
  rw [hs2] at h6
  have := hal.size
  omega
set_option maxHeartbeats 8000000 in
theorem pdec_sector (bv : Value) (b : Bs) (w : World) (hY : IsY w bv b) (h : b.length = 64) (h3 : (b[20]'(by omega)).toNat ≤ 39) : Calls Try.prog 61 #[bv] w (PDecN w b bv) := by
  have hYY := hY
  have HPD0 : Hid (∀ e x, PDecN w b bv e x → PDecN w b bv e x) := hide (fun _ _ h => h)
  rcases hY with ⟨e, _⟩ | ⟨bb, bo, cap, rfl, hcap, hh⟩
  · rw [e] at h; cases h
  have hcap' : 64 ≤ cap := by omega
  have h20 := at_twenty b h
  have HC : Hid (∀ x, Below w.heap.size w x → x.cell? ⟨bb, bo + 20, none⟩ = some (.int .u8 ((b[20]'(by omega)).toNat : Int))) := hide (fun x hb => (hb.cell (cell_lt (hh 20 (by omega)))).trans (hh 20 (by omega)))
  have HN : Hid (∀ x, Below w.heap.size w x → Calls Try.prog 72 #[.slice (some ⟨bb, bo, none⟩) 8 cap] x (fun e w' => e = .returned (.int .u64 (numB (b.take 8) : Int)) ∧ w' = x) ∧ Calls Try.prog 72 #[.slice (some ⟨bb, bo + 8, none⟩) 8 (cap - 8)] x (fun e w' => e = .returned (.int .u64 (numB ((b.drop 8).take 8) : Int)) ∧ w' = x) ∧ Calls Try.prog 72 #[.slice (some ⟨bb, bo + 16, none⟩) 2 (cap - 16)] x (fun e w' => e = .returned (.int .u64 (numB ((b.drop 16).take 2) : Int)) ∧ w' = x) ∧ Calls Try.prog 72 #[.slice (some ⟨bb, bo + 18, none⟩) 2 (cap - 18)] x (fun e w' => e = .returned (.int .u64 (numB ((b.drop 18).take 2) : Int)) ∧ w' = x)) := hide (fun x hb => by
    have hh' : ∀ j (hj : j < b.length), x.cell? ⟨bb, bo + j, none⟩ = some (.int .u8 (b[j].toNat : Int)) := fun j hj => (hb.cell (cell_lt (hh j hj))).trans (hh j hj)
    have p0 := part_isY h hcap' hh' 0 8 (by omega)
    rw [Nat.add_zero, Nat.sub_zero, List.drop_zero] at p0
    exact ⟨pnumber_any _ _ x p0 (by rw [List.length_take]; omega), pnumber_any _ _ x (part_isY h hcap' hh' 8 8 (by omega)) (by rw [List.length_take]; omega), pnumber_any _ _ x (part_isY h hcap' hh' 16 2 (by omega)) (by rw [List.length_take]; omega), pnumber_any _ _ x (part_isY h hcap' hh' 18 2 (by omega)) (by rw [List.length_take]; omega)⟩)
  have hn0 := num_eight (b.take 8) (by rw [List.length_take]; omega)
  have hn1 := num_eight ((b.drop 8).take 8) (by rw [List.length_take]; omega)
  have hn2 := num_two ((b.drop 16).take 2) (by rw [List.length_take]; omega)
  have hn3 := num_two ((b.drop 18).take 2) (by rw [List.length_take]; omega)
  have HRD : Hid (readC b = ⟨numB (b.take 8), numB ((b.drop 8).take 8), numB ((b.drop 16).take 2), numB ((b.drop 18).take 2), (b.drop 21).take (b[20]'(by omega)).toNat⟩) := hide (by unfold readC; rw [h20])
  have hDL : ((b.drop 21).take (b[20]'(by omega)).toNat).length = (b[20]'(by omega)).toNat := by rw [List.length_take, List.length_drop]; omega
  have HPD : Hid (∀ x, Below w.heap.size w x → Calls Try.prog 55 #[.slice (some ⟨bb, bo + 21, none⟩) (b[20]'(by omega)).toNat (cap - 21)] x (fun e w' => ∃ a c, e = .returned (.slice a (b[20]'(by omega)).toNat c) ∧ Hid (IsY w' (.slice a (b[20]'(by omega)).toNat c) ((b.drop 21).take (b[20]'(by omega)).toNat)) ∧ Hid (NewV x w' (.slice a (b[20]'(by omega)).toNat c)) ∧ Hid (Below x.heap.size x w'))) := hide (fun x hb => by
    refine (pclone_any _ _ x (part_isY h hcap' (fun j hj => (hb.cell (cell_lt (hh j hj))).trans (hh j hj)) 21 _ (by omega)) (by omega)).mono ?_
    rintro e w' ⟨a, c, rfl, k1, k2, k3⟩
    rw [hDL] at k1 k2 ⊢
    exact ⟨a, c, rfl, hide k1, hide k2, hide k3⟩)
  have HDL := hide hDL
  have HYB : Hid (∀ x, Below w.heap.size w x → IsY x (.slice (some ⟨bb, bo, none⟩) 64 cap) b) := hide (fun x hb => by have := hYY.below hb; rw [h] at this; exact this)
  have HDE : Hid (decC b = if mayC (readC b) ∧ encC (readC b) = b then some (readC b) else none) := hide (by
    unfold decC
    by_cases hm : mayC (readC b) ∧ encC (readC b) = b
    · rw [if_pos hm, if_pos ⟨h, by rw [h20]; exact h3, hm.1, hm.2⟩]
    · rw [if_neg hm, if_neg (fun hx => hm ⟨hx.2.2.1, hx.2.2.2⟩)])
  have HCAP := hide hcap'
  have HN0 := hide (And.intro hn0 (And.intro hn1 (And.intro hn2 hn3)))
  have hcI : (64 : Int) ≤ (cap : Int) := by omega
  have hi8 : (8 : Int) ≤ (cap : Int) := by omega
  have hi16 : (16 : Int) ≤ (cap : Int) := by omega
  have hi18 : (18 : Int) ≤ (cap : Int) := by omega
  have hi20 : (20 : Int) ≤ (cap : Int) := by omega
  have hw2 : IntKind.i64.wrap (numB ((b.drop 16).take 2) : Int) = (numB ((b.drop 16).take 2) : Int) := by rw [IntKind.wrap_i64]; omega
  have hw3 : IntKind.i64.wrap (numB ((b.drop 18).take 2) : Int) = (numB ((b.drop 18).take 2) : Int) := by rw [IntKind.wrap_i64]; omega
  have hc16 : ¬ cap = 16 := by omega
  have hc8 : ¬ cap = 8 := by omega
  have hc18 : ¬ cap = 18 := by omega
  have hc21 : ¬ cap = 21 := by omega
  rw [h] at HPD0 ⊢
  clear hYY hh hcap h20 hDL
  generalize (b[20]'(by omega)).toNat = x at *
  generalize (b.drop 21).take x = D at *
  generalize numB (b.take 8) = n0 at *
  generalize numB ((b.drop 8).take 8) = n1 at *
  generalize numB ((b.drop 16).take 2) = n2 at *
  generalize numB ((b.drop 18).take 2) = n3 at *
  go_enter Try.func61, Try.ntmps61
  have h3I : decide ((39 : Int) < (x : Int)) = false := decide_eq_false (by omega)
  have B1 := hide (below_alloc w (.cells #[.int .u64 0, .int .u64 0, .int .i64 0, .int .i64 0, .slice none 0 0] 90))
  have hc20 := HC.out _ B1.out
  clear hi8 hi16 hi18 hi20 hcI hc16 hc8 hc18 hc21 hw2 hw3 hn0 hn1 hn2 hn3 hcap'
  go_wp2_with fail
  rename_i K0 hK0
  have HREST : ∀ (bx : Nat) (da : Option Addr) (dc : Nat) (X : World), Hid (DecP w X n0 n1 n2 n3 D (.slice da x dc) bx) → Exit.then K0 (bodyPost Try.prog Try.f61 (PDecN w b (.slice (some ⟨bb, bo, none⟩) 64 cap))) Exit.normal { tmps := #[.slice (some ⟨bb, bo, none⟩) 64 cap, undef, .pointer (some ⟨w.heap.size, 0, none⟩), .int .i64 0, .pointer (some ⟨bx, 0, none⟩), undef, undef, .slice (some ⟨bb, bo, none⟩) 64 cap, .int .i64 64, .bool false, .bool false, .slice (some ⟨bb, bo, none⟩) 64 cap, .pointer (some ⟨bb, bo + 20, none⟩), .int .u8 (x : Int), .bool false, .bool false, undef, .slice (some ⟨bb, bo, none⟩) 64 cap, .slice (some ⟨bb, bo, none⟩) 8 cap, .int .u64 (n0 : Int), .slice (some ⟨bb, bo, none⟩) 64 cap, .slice (some ⟨bb, bo + 8, none⟩) 8 (cap - 8), .int .u64 (n1 : Int), .slice (some ⟨bb, bo, none⟩) 64 cap, .slice (some ⟨bb, bo + 16, none⟩) 2 (cap - 16), .int .u64 (n2 : Int), .int .i64 (n2 : Int), .slice (some ⟨bb, bo, none⟩) 64 cap, .slice (some ⟨bb, bo + 18, none⟩) 2 (cap - 18), .int .u64 (n3 : Int), .int .i64 (n3 : Int), .slice (some ⟨bb, bo, none⟩) 64 cap, .slice (some ⟨bb, bo, none⟩) 64 cap, .pointer (some ⟨bb, bo + 20, none⟩), .int .u8 (x : Int), .int .i64 (x : Int), .int .i64 (21 + (x : Int)), .slice (some ⟨bb, bo + 21, none⟩) x (cap - 21), .slice da x dc, .agg #[.int .u64 (n0 : Int), .int .u64 (n1 : Int), .int .i64 (n2 : Int), .int .i64 (n3 : Int), .slice da x dc], undef, undef, undef, undef, undef, undef, undef, undef, undef, undef, undef, undef, undef, undef, undef], defers := [] } X := by
    intro bx da dc X HDP
    have V := HDP.out
    have e0 : X.cell? ⟨bx, 0, none⟩ = some (.int .u64 (n0 : Int)) := by rw [cell_of_row X _ 0 _ _ _ V.c]; rfl
    have e1 : X.cell? ⟨bx, 1, none⟩ = some (.int .u64 (n1 : Int)) := by rw [cell_of_row X _ 1 _ _ _ V.c]; rfl
    have e2 : X.cell? ⟨bx, 2, none⟩ = some (.int .i64 (n2 : Int)) := by rw [cell_of_row X _ 2 _ _ _ V.c]; rfl
    have e3 : X.cell? ⟨bx, 3, none⟩ = some (.int .i64 (n3 : Int)) := by rw [cell_of_row X _ 3 _ _ _ V.c]; rfl
    have e4 : X.cell? ⟨bx, 4, none⟩ = some (.slice da x dc) := by rw [cell_of_row X _ 4 _ _ _ V.c]; rfl
    have HEN := hide (penc_new ⟨n0, n1, n2, n3, D⟩ (.slice da x dc) X V.i (by show D.length ≤ 1000000; rw [HDL.out]; omega))
    clear V HN HPD B1 hc20 h3I HCAP HN0 HC
    go_wp2_with fail
    refine HEN.out.mono ?_
    rintro e w5 ⟨⟨hb5, hcase⟩, -⟩
    clear e0 e1 e2 e3 e4 HEN
    have V := HDP.out
    have bw5 : Below w.heap.size w w5 := V.b.trans (hb5.mono V.b.size)
    have hbx : bx < X.heap.size := (Array.getElem?_eq_some_iff.1 V.c).1
    have r5 := (hb5.block _ (by have := V.g; omega)).trans V.r
    have c5 := (hb5.block _ hbx).trans V.c
    have i5 := V.i.below hb5
    have hvg := V.v
    have hsz5 := hb5.size
    have hgb := V.g
    have f0 : w5.cell? ⟨w.heap.size, 0, none⟩ = some (.int .u64 0) := by rw [cell_of_row w5 _ 0 _ _ _ r5]; rfl
    have f1 : w5.cell? ⟨w.heap.size, 1, none⟩ = some (.int .u64 0) := by rw [cell_of_row w5 _ 1 _ _ _ r5]; rfl
    have f2 : w5.cell? ⟨w.heap.size, 2, none⟩ = some (.int .i64 0) := by rw [cell_of_row w5 _ 2 _ _ _ r5]; rfl
    have f3 : w5.cell? ⟨w.heap.size, 3, none⟩ = some (.int .i64 0) := by rw [cell_of_row w5 _ 3 _ _ _ r5]; rfl
    have f4 : w5.cell? ⟨w.heap.size, 4, none⟩ = some (.slice none 0 0) := by rw [cell_of_row w5 _ 4 _ _ _ r5]; rfl
    have ff : ∀ j, w5.frozen? ⟨w.heap.size, j, none⟩ = false := fun j => by simp [World.frozen?, r5]
    have g0 : w5.cell? ⟨bx, 0, none⟩ = some (.int .u64 (n0 : Int)) := by rw [cell_of_row w5 _ 0 _ _ _ c5]; rfl
    have g1 : w5.cell? ⟨bx, 1, none⟩ = some (.int .u64 (n1 : Int)) := by rw [cell_of_row w5 _ 1 _ _ _ c5]; rfl
    have g2 : w5.cell? ⟨bx, 2, none⟩ = some (.int .i64 (n2 : Int)) := by rw [cell_of_row w5 _ 2 _ _ _ c5]; rfl
    have g3 : w5.cell? ⟨bx, 3, none⟩ = some (.int .i64 (n3 : Int)) := by rw [cell_of_row w5 _ 3 _ _ _ c5]; rfl
    have g4 : w5.cell? ⟨bx, 4, none⟩ = some (.slice da x dc) := by rw [cell_of_row w5 _ 4 _ _ _ c5]; rfl
    have HS5 : Hid (∀ (u0 u1 u2 u3 u4 : Value), Below w.heap.size w (((((w5.setCell ⟨w.heap.size, 0, none⟩ u0).setCell ⟨w.heap.size, 1, none⟩ u1).setCell ⟨w.heap.size, 2, none⟩ u2).setCell ⟨w.heap.size, 3, none⟩ u3).setCell ⟨w.heap.size, 4, none⟩ u4)) := hide fun u0 u1 u2 u3 u4 => ((((bw5.setCell (Nat.le_refl _) u0).setCell (Nat.le_refl _) u1).setCell (Nat.le_refl _) u2).setCell (Nat.le_refl _) u3).setCell (Nat.le_refl _) u4
    have HI5 : Hid (∀ (u0 u1 u2 u3 u4 : Value), IsC (((((w5.setCell ⟨w.heap.size, 0, none⟩ u0).setCell ⟨w.heap.size, 1, none⟩ u1).setCell ⟨w.heap.size, 2, none⟩ u2).setCell ⟨w.heap.size, 3, none⟩ u3).setCell ⟨w.heap.size, 4, none⟩ u4) ⟨n0, n1, n2, n3, D⟩ (.slice da x dc) ∧ NewV w (((((w5.setCell ⟨w.heap.size, 0, none⟩ u0).setCell ⟨w.heap.size, 1, none⟩ u1).setCell ⟨w.heap.size, 2, none⟩ u2).setCell ⟨w.heap.size, 3, none⟩ u3).setCell ⟨w.heap.size, 4, none⟩ u4) (.slice da x dc)) := hide (fun u0 u1 u2 u3 u4 => ⟨⟨i5.ep, i5.li, i5.part, i5.of, isY_keepC i5.d fun k hk => by
        have hne : k ≠ w.heap.size := by have := hvg k hk; omega
        rw [Below.heap_setCell _ _ _ _ hne, Below.heap_setCell _ _ _ _ hne, Below.heap_setCell _ _ _ _ hne, Below.heap_setCell _ _ _ _ hne, Below.heap_setCell _ _ _ _ hne]⟩, fun k hk => by
        have h1 := hvg k hk
        have h2 : w5.heap.size ≤ (((((w5.setCell ⟨w.heap.size, 0, none⟩ u0).setCell ⟨w.heap.size, 1, none⟩ u1).setCell ⟨w.heap.size, 2, none⟩ u2).setCell ⟨w.heap.size, 3, none⟩ u3).setCell ⟨w.heap.size, 4, none⟩ u4).heap.size := by simp [World.setCell]
        omega⟩)
    have hrd := HRD.out
    have hde := HDE.out
    rw [hrd] at hde
    have HDEC := hide hde
    have HBY := hide (HYB.out w5 bw5)
    have HEQ := hide (fun u l (hu : IsY w5 u l) => pequal_any u _ l b w5 hu HBY.out)
    clear V r5 c5 i5 hrd hde bw5 HDE HRD HYB hvg hsz5 hgb hbx
    rcases hcase with ⟨hnm, oa, ok, rfl⟩ | ⟨hm, oa, ok, rfl, ho⟩
    · have HF : Hid (∀ x, Below w.heap.size w x → PDecN w b (.slice (some ⟨bb, bo, none⟩) 64 cap) (.returned (.tuple #[clA zeroC (.slice none 0 0), .int .i64 8])) x) := hide (fun x hb => pdec_no hb (by rw [HDEC.out, if_neg (fun hh => hnm hh.1)]))
      clear hnm HDEC hb5
      go_wp2
      refine bodyPost_ret (v := .tuple #[clA zeroC (.slice none 0 0), .int .i64 8]) ?_ rfl (HF.out _ (HS5.out _ _ _ _ _))
      simp [results, Try.results61, go_sem, f0, f1, f2, f3, f4]
    · have HEQ2 := hide (HEQ.out _ _ ho)
      by_cases hEN : encC ⟨n0, n1, n2, n3, D⟩ = b
      · have HF : Hid (∀ y, Below w.heap.size w y → IsC y ⟨n0, n1, n2, n3, D⟩ (.slice da x dc) ∧ NewV w y (.slice da x dc) → PDecN w b (.slice (some ⟨bb, bo, none⟩) 64 cap) (.returned (.tuple #[clA ⟨n0, n1, n2, n3, D⟩ (.slice da x dc), .int .i64 0])) y) := hide (fun y hb hi => by
          have hx : x = (⟨n0, n1, n2, n3, D⟩ : CL).data.length := HDL.out.symm
          rw [hx] at hi ⊢
          exact pdec_yes hb (by rw [HDEC.out, if_pos ⟨hm, hEN⟩]) hi.1 hi.2)
        rw [decide_eq_true hEN] at HEQ2
        clear hm HDEC hb5 ho hEN HEQ HBY
        go_wp2_with fail
        refine HEQ2.out.mono ?_
        rintro e w6 ⟨rfl, rfl⟩
        go_wp2
        refine bodyPost_ret (v := .tuple #[clA ⟨n0, n1, n2, n3, D⟩ (.slice da x dc), .int .i64 0]) ?_ rfl (HF.out _ (HS5.out _ _ _ _ _) (HI5.out _ _ _ _ _))
        simp [results, Try.results61, go_sem, f0, f1, f2, f3, f4]
      · have HF : Hid (∀ x, Below w.heap.size w x → PDecN w b (.slice (some ⟨bb, bo, none⟩) 64 cap) (.returned (.tuple #[clA zeroC (.slice none 0 0), .int .i64 8])) x) := hide (fun x hb => pdec_no hb (by rw [HDEC.out, if_neg (fun hh => hEN hh.2)]))
        rw [decide_eq_false hEN] at HEQ2
        clear hm HDEC hb5 ho hEN HEQ HBY
        go_wp2_with fail
        refine HEQ2.out.mono ?_
        rintro e w6 ⟨rfl, rfl⟩
        go_wp2
        refine bodyPost_ret (v := .tuple #[clA zeroC (.slice none 0 0), .int .i64 8]) ?_ rfl (HF.out _ (HS5.out _ _ _ _ _))
        simp [results, Try.results61, go_sem, f0, f1, f2, f3, f4]
  refine wp_region_held_drew (S := fun W' => Below (w.alloc (.cells #[.int .u64 0, .int .u64 0, .int .i64 0, .int .i64 0, .slice none 0 0] 90)).heap.size (w.alloc (.cells #[.int .u64 0, .int .u64 0, .int .i64 0, .int .i64 0, .slice none 0 0] 90)) W') (by kernel_rfl) (Below.refl _ _).drew (fun hHeld => ?_)
  refine wpAnyH_take (i := 0) (v := ?_) rfl (by kernel_rfl) (by kernel_rfl) (by kernel_rfl) (fun _ _ _ h => h) (Or.inl ⟨by kernel_rfl, ?_⟩) hHeld ?_
  rotate_left
  · intro W hSw
    clear hSw
    go_simp <;> with_reducible rfl
  simp only [Act.put, List.getElem_toArray, List.getElem_cons_zero, List.getElem_cons_succ, List.setIfInBounds_toArray, List.set_cons_zero, List.set_cons_succ]
  refine wpAnyH_take (i := 1) (v := ?_) rfl (by kernel_rfl) (by kernel_rfl) (by kernel_rfl) (fun _ _ _ h => h) (Or.inl ⟨by kernel_rfl, ?_⟩) hHeld ?_
  rotate_left
  · intro W hSw
    have hcap2 := HCAP.out
    have hi8 : (8 : Int) ≤ (cap : Int) := by omega
    clear hcap2
    clear hSw
    go_simp <;> with_reducible rfl
  simp only [Act.put, List.getElem_toArray, List.getElem_cons_zero, List.getElem_cons_succ, List.setIfInBounds_toArray, List.set_cons_zero, List.set_cons_succ]
  refine wpAnyH_take (i := 3) (v := ?_) rfl (by kernel_rfl) (by kernel_rfl) (by kernel_rfl) (fun _ _ _ h => h) (Or.inl ⟨by kernel_rfl, ?_⟩) hHeld ?_
  rotate_left
  · intro W hSw
    clear hSw
    go_simp <;> with_reducible rfl
  simp only [Act.put, List.getElem_toArray, List.getElem_cons_zero, List.getElem_cons_succ, List.setIfInBounds_toArray, List.set_cons_zero, List.set_cons_succ]
  refine wpAnyH_take (i := 4) (v := ?_) rfl (by kernel_rfl) (by kernel_rfl) (by kernel_rfl) (fun _ _ _ h => h) (Or.inl ⟨by kernel_rfl, ?_⟩) hHeld ?_
  rotate_left
  · intro W hSw
    have hcap2 := HCAP.out
    have hi16 : (16 : Int) ≤ (cap : Int) := by omega
    have hc8 : ¬ cap = 8 := by omega
    clear hcap2
    clear hSw
    go_simp <;> with_reducible rfl
  simp only [Act.put, List.getElem_toArray, List.getElem_cons_zero, List.getElem_cons_succ, List.setIfInBounds_toArray, List.set_cons_zero, List.set_cons_succ]
  refine wpAnyH_take (i := 6) (v := ?_) rfl (by kernel_rfl) (by kernel_rfl) (by kernel_rfl) (fun _ _ _ h => h) (Or.inl ⟨by kernel_rfl, ?_⟩) hHeld ?_
  rotate_left
  · intro W hSw
    clear hSw
    go_simp <;> with_reducible rfl
  simp only [Act.put, List.getElem_toArray, List.getElem_cons_zero, List.getElem_cons_succ, List.setIfInBounds_toArray, List.set_cons_zero, List.set_cons_succ]
  refine wpAnyH_take (i := 7) (v := ?_) rfl (by kernel_rfl) (by kernel_rfl) (by kernel_rfl) (fun _ _ _ h => h) (Or.inl ⟨by kernel_rfl, ?_⟩) hHeld ?_
  rotate_left
  · intro W hSw
    have hcap2 := HCAP.out
    have hi18 : (18 : Int) ≤ (cap : Int) := by omega
    have hc16 : ¬ cap = 16 := by omega
    clear hcap2
    clear hSw
    go_simp <;> with_reducible rfl
  simp only [Act.put, List.getElem_toArray, List.getElem_cons_zero, List.getElem_cons_succ, List.setIfInBounds_toArray, List.set_cons_zero, List.set_cons_succ]
  refine wpAnyH_take (i := 10) (v := ?_) rfl (by kernel_rfl) (by kernel_rfl) (by kernel_rfl) (fun _ _ _ h => h) (Or.inl ⟨by kernel_rfl, ?_⟩) hHeld ?_
  rotate_left
  · intro W hSw
    clear hSw
    go_simp <;> with_reducible rfl
  simp only [Act.put, List.getElem_toArray, List.getElem_cons_zero, List.getElem_cons_succ, List.setIfInBounds_toArray, List.set_cons_zero, List.set_cons_succ]
  refine wpAnyH_take (i := 11) (v := ?_) rfl (by kernel_rfl) (by kernel_rfl) (by kernel_rfl) (fun _ _ _ h => h) (Or.inl ⟨by kernel_rfl, ?_⟩) hHeld ?_
  rotate_left
  · intro W hSw
    have hcap2 := HCAP.out
    have hi20 : (20 : Int) ≤ (cap : Int) := by omega
    have hc18 : ¬ cap = 18 := by omega
    clear hcap2
    clear hSw
    go_simp <;> with_reducible rfl
  simp only [Act.put, List.getElem_toArray, List.getElem_cons_zero, List.getElem_cons_succ, List.setIfInBounds_toArray, List.set_cons_zero, List.set_cons_succ]
  refine wpAnyH_take (i := 14) (v := ?_) rfl (by kernel_rfl) (by kernel_rfl) (by kernel_rfl) (fun _ _ _ h => h) (Or.inl ⟨by kernel_rfl, ?_⟩) hHeld ?_
  rotate_left
  · intro W hSw
    clear hSw
    go_simp <;> with_reducible rfl
  simp only [Act.put, List.getElem_toArray, List.getElem_cons_zero, List.getElem_cons_succ, List.setIfInBounds_toArray, List.set_cons_zero, List.set_cons_succ]
  refine wpAnyH_take (i := 15) (v := ?_) rfl (by kernel_rfl) (by kernel_rfl) (by kernel_rfl) (fun _ _ _ h => h) (Or.inl ⟨by kernel_rfl, ?_⟩) hHeld ?_
  rotate_left
  · intro W hSw
    clear hSw
    go_simp <;> with_reducible rfl
  simp only [Act.put, List.getElem_toArray, List.getElem_cons_zero, List.getElem_cons_succ, List.setIfInBounds_toArray, List.set_cons_zero, List.set_cons_succ]
  refine wpAnyH_take (i := 16) (v := ?_) rfl (by kernel_rfl) (by kernel_rfl) (by kernel_rfl) (fun _ _ _ h => h) (Or.inl ⟨by kernel_rfl, ?_⟩) hHeld ?_
  rotate_left
  · intro W hSw
    clear hSw
    go_simp <;> with_reducible rfl
  simp only [Act.put, List.getElem_toArray, List.getElem_cons_zero, List.getElem_cons_succ, List.setIfInBounds_toArray, List.set_cons_zero, List.set_cons_succ]
  refine wpAnyH_take (i := 17) (v := ?_) rfl (by kernel_rfl) (by kernel_rfl) (by kernel_rfl) (fun _ _ _ h => h) (Or.inl ⟨by kernel_rfl, ?_⟩) hHeld ?_
  rotate_left
  · intro W hSw
    have hc := HC.out _ (B1.out.trans (hSw.mono B1.out.size))
    clear hSw
    go_simp <;> with_reducible rfl
  simp only [Act.put, List.getElem_toArray, List.getElem_cons_zero, List.getElem_cons_succ, List.setIfInBounds_toArray, List.set_cons_zero, List.set_cons_succ]
  refine wpAnyH_take (i := 18) (v := ?_) rfl (by kernel_rfl) (by kernel_rfl) (by kernel_rfl) (fun _ _ _ h => h) (Or.inl ⟨by kernel_rfl, ?_⟩) hHeld ?_
  rotate_left
  · intro W hSw
    have hwx2 : IntKind.i64.wrap (x : Int) = (x : Int) := by rw [IntKind.wrap_i64]; omega
    clear hSw
    go_simp <;> with_reducible rfl
  simp only [Act.put, List.getElem_toArray, List.getElem_cons_zero, List.getElem_cons_succ, List.setIfInBounds_toArray, List.set_cons_zero, List.set_cons_succ]
  refine wpAnyH_take (i := 19) (v := ?_) rfl (by kernel_rfl) (by kernel_rfl) (by kernel_rfl) (fun _ _ _ h => h) (Or.inl ⟨by kernel_rfl, ?_⟩) hHeld ?_
  rotate_left
  · intro W hSw
    have hwx3 : IntKind.i64.wrap (21 + (x : Int)) = 21 + (x : Int) := by rw [IntKind.wrap_i64]; omega
    have hwx : wrap64 (21 + (x : Int)) = 21 + (x : Int) := by unfold wrap64; omega
    clear hSw
    go_simp <;> with_reducible rfl
  simp only [Act.put, List.getElem_toArray, List.getElem_cons_zero, List.getElem_cons_succ, List.setIfInBounds_toArray, List.set_cons_zero, List.set_cons_succ]
  refine wpAnyH_take (i := 20) (v := ?_) rfl (by kernel_rfl) (by kernel_rfl) (by kernel_rfl) (fun _ _ _ h => h) (Or.inl ⟨by kernel_rfl, ?_⟩) hHeld ?_
  rotate_left
  · intro W hSw
    have hcap2 := HCAP.out
    have hsl1 : (21 : Int) + (x : Int) ≤ (cap : Int) := by omega
    have hsl2 : (21 : Int) ≤ 21 + (x : Int) := by omega
    have hsl3 : ((21 : Int) + (x : Int)).toNat = 21 + x := by omega
    have hsl4 : 21 + x - 21 = x := by omega
    have hc21 : ¬ cap = 21 := by omega
    clear hcap2
    clear hSw
    go_simp <;> with_reducible rfl
  simp only [Act.put, List.getElem_toArray, List.getElem_cons_zero, List.getElem_cons_succ, List.setIfInBounds_toArray, List.set_cons_zero, List.set_cons_succ]
  refine wpAnyH_ready (rs := [2, 23]) (by kernel_rfl) (by simp) ?_
  refine AllReadyH.cons rfl (fun K hK => ?_) (AllReadyH.cons rfl (fun K hK => ?_) AllReadyH.nil)
  · go_simp
    go_wp2_with (first | (go_at_call 72; refine ((HN.out _ (B1.out.trans (hHeld.mono B1.out.size))).1).mono ?_; rintro e y ⟨rfl, rfl⟩))
    refine hK.out _ _ ?_ (fun hHeld => ?_)
    · exact hHeld
    clear hK K
    try simp only [Act.put, List.getElem_toArray, List.getElem_cons_zero, List.getElem_cons_succ, List.setIfInBounds_toArray, List.set_cons_zero, List.set_cons_succ]
    refine wpAnyH_ready (rs := [5, 23]) (by kernel_rfl) (by simp) ?_
    refine AllReadyH.cons rfl (fun K hK => ?_) (AllReadyH.cons rfl (fun K hK => ?_) AllReadyH.nil)
    · go_simp
      go_wp2_with (first | (go_at_call 72; refine ((HN.out _ (B1.out.trans (hHeld.mono B1.out.size))).2.1).mono ?_; rintro e y ⟨rfl, rfl⟩))
      refine hK.out _ _ ?_ (fun hHeld => ?_)
      · exact hHeld
      clear hK K
      try simp only [Act.put, List.getElem_toArray, List.getElem_cons_zero, List.getElem_cons_succ, List.setIfInBounds_toArray, List.set_cons_zero, List.set_cons_succ]
      refine wpAnyH_ready (rs := [8, 23]) (by kernel_rfl) (by simp) ?_
      refine AllReadyH.cons rfl (fun K hK => ?_) (AllReadyH.cons rfl (fun K hK => ?_) AllReadyH.nil)
      · go_simp
        go_wp2_with (first | (go_at_call 72; refine ((HN.out _ (B1.out.trans (hHeld.mono B1.out.size))).2.2.1).mono ?_; rintro e y ⟨rfl, rfl⟩))
        refine hK.out _ _ ?_ (fun hHeld => ?_)
        · exact hHeld
        clear hK K
        try simp only [Act.put, List.getElem_toArray, List.getElem_cons_zero, List.getElem_cons_succ, List.setIfInBounds_toArray, List.set_cons_zero, List.set_cons_succ]
        refine wpAnyH_take (i := 9) (v := ?_) rfl (by kernel_rfl) (by kernel_rfl) (by kernel_rfl) (fun _ _ _ h => h) (Or.inl ⟨by kernel_rfl, ?_⟩) hHeld ?_
        rotate_left
        · intro W hSw
          have hn := HN0.out.2.2.1
          have hw2 : IntKind.i64.wrap (n2 : Int) = (n2 : Int) := by rw [IntKind.wrap_i64]; omega
          clear hn
          clear hSw
          go_simp <;> with_reducible rfl
        simp only [Act.put, List.getElem_toArray, List.getElem_cons_zero, List.getElem_cons_succ, List.setIfInBounds_toArray, List.set_cons_zero, List.set_cons_succ]
        refine wpAnyH_ready (rs := [12, 23]) (by kernel_rfl) (by simp) ?_
        refine AllReadyH.cons rfl (fun K hK => ?_) (AllReadyH.cons rfl (fun K hK => ?_) AllReadyH.nil)
        · go_simp
          go_wp2_with (first | (go_at_call 72; refine ((HN.out _ (B1.out.trans (hHeld.mono B1.out.size))).2.2.2).mono ?_; rintro e y ⟨rfl, rfl⟩))
          refine hK.out _ _ ?_ (fun hHeld => ?_)
          · exact hHeld
          clear hK K
          try simp only [Act.put, List.getElem_toArray, List.getElem_cons_zero, List.getElem_cons_succ, List.setIfInBounds_toArray, List.set_cons_zero, List.set_cons_succ]
          refine wpAnyH_take (i := 13) (v := ?_) rfl (by kernel_rfl) (by kernel_rfl) (by kernel_rfl) (fun _ _ _ h => h) (Or.inl ⟨by kernel_rfl, ?_⟩) hHeld ?_
          rotate_left
          · intro W hSw
            have hn := HN0.out.2.2.2
            have hw3 : IntKind.i64.wrap (n3 : Int) = (n3 : Int) := by rw [IntKind.wrap_i64]; omega
            clear hn
            clear hSw
            go_simp <;> with_reducible rfl
          simp only [Act.put, List.getElem_toArray, List.getElem_cons_zero, List.getElem_cons_succ, List.setIfInBounds_toArray, List.set_cons_zero, List.set_cons_succ]
          refine wpAnyH_ready (rs := [21, 23]) (by kernel_rfl) (by simp) ?_
          refine AllReadyH.cons rfl (fun K hK => ?_) (AllReadyH.cons rfl (fun K hK => ?_) AllReadyH.nil)
          · go_simp
            go_wp2_with (first | (go_at_call 55; refine (HPD.out _ (B1.out.trans (hHeld.mono B1.out.size))).mono ?_; rintro e y ⟨da, dc, rfl, hiy, hny, hby⟩))
            have hdp := decp_late hby.out hiy.out hny.out HN0.out
            have HDP := hide hdp
            clear hdp
            refine hK.out _ _ ?_ (fun hHeld => ?_)
            · exact hHeld.trans (hby.out.mono hHeld.size)
            clear hK K
            try simp only [Act.put, List.getElem_toArray, List.getElem_cons_zero, List.getElem_cons_succ, List.setIfInBounds_toArray, List.set_cons_zero, List.set_cons_succ]
            refine wpAnyH_take (i := 22) (v := ?_) rfl (by kernel_rfl) (by kernel_rfl) (by kernel_rfl) (fun _ _ _ h => h) (Or.inl ⟨by kernel_rfl, ?_⟩) hHeld ?_
            rotate_left
            · intro W hSw
              clear hSw
              go_simp <;> with_reducible rfl
            simp only [Act.put, List.getElem_toArray, List.getElem_cons_zero, List.getElem_cons_succ, List.setIfInBounds_toArray, List.set_cons_zero, List.set_cons_succ]
            refine wpAnyH_ready (rs := [23]) (by kernel_rfl) (by simp) ?_
            refine AllReadyH.cons rfl (fun K hK => ?_) AllReadyH.nil
            go_simp
            refine hK.out _ _ ?_ (fun hHeld => ?_)
            · exact hHeld.alloc hHeld.size _
            clear hK K
            try simp only [Act.put, List.getElem_toArray, List.getElem_cons_zero, List.getElem_cons_succ, List.setIfInBounds_toArray, List.set_cons_zero, List.set_cons_succ]
            refine wpAnyH_ready (rs := [24]) (by kernel_rfl) (by simp) ?_
            refine AllReadyH.cons rfl (fun K hK => ?_) AllReadyH.nil
            go_simp
            refine hK.out _ _ ?_ (fun hHeld => ?_)
            · exact HDP.out.2
            clear hK K
            try simp only [Act.put, List.getElem_toArray, List.getElem_cons_zero, List.getElem_cons_succ, List.setIfInBounds_toArray, List.set_cons_zero, List.set_cons_succ]
            refine wpAnyH_done (by kernel_rfl) ?_ _
            exact HREST _ _ _ _ (hide HDP.out.1)
          · go_simp
            refine hK.out _ _ ?_ (fun hHeld => ?_)
            · exact hHeld.alloc hHeld.size _
            clear hK K
            try simp only [Act.put, List.getElem_toArray, List.getElem_cons_zero, List.getElem_cons_succ, List.setIfInBounds_toArray, List.set_cons_zero, List.set_cons_succ]
            refine wpAnyH_ready (rs := [21]) (by kernel_rfl) (by simp) ?_
            refine AllReadyH.cons rfl (fun K hK => ?_) AllReadyH.nil
            go_simp
            go_wp2_with (first | (go_at_call 55; refine (HPD.out _ (B1.out.trans (hHeld.mono B1.out.size))).mono ?_; rintro e y ⟨da, dc, rfl, hiy, hny, hby⟩))
            obtain ⟨⟨z0, z1, z2, z3, z4, zf⟩, hdp⟩ := decp_early hby.out hiy.out hny.out HN0.out
            have HDP := hide hdp
            clear hdp
            refine hK.out _ _ ?_ (fun hHeld => ?_)
            · exact hHeld.trans (hby.out.mono hHeld.size)
            clear hK K
            try simp only [Act.put, List.getElem_toArray, List.getElem_cons_zero, List.getElem_cons_succ, List.setIfInBounds_toArray, List.set_cons_zero, List.set_cons_succ]
            refine wpAnyH_take (i := 22) (v := ?_) rfl (by kernel_rfl) (by kernel_rfl) (by kernel_rfl) (fun _ _ _ h => h) (Or.inl ⟨by kernel_rfl, ?_⟩) hHeld ?_
            rotate_left
            · intro W hSw
              clear hSw
              go_simp <;> with_reducible rfl
            simp only [Act.put, List.getElem_toArray, List.getElem_cons_zero, List.getElem_cons_succ, List.setIfInBounds_toArray, List.set_cons_zero, List.set_cons_succ]
            refine wpAnyH_ready (rs := [24]) (by kernel_rfl) (by simp) ?_
            refine AllReadyH.cons rfl (fun K hK => ?_) AllReadyH.nil
            go_simp
            refine hK.out _ _ ?_ (fun hHeld => ?_)
            · exact HDP.out.2
            clear hK K
            try simp only [Act.put, List.getElem_toArray, List.getElem_cons_zero, List.getElem_cons_succ, List.setIfInBounds_toArray, List.set_cons_zero, List.set_cons_succ]
            refine wpAnyH_done (by kernel_rfl) ?_ _
            exact HREST _ _ _ _ (hide HDP.out.1)
        · go_simp
          refine hK.out _ _ ?_ (fun hHeld => ?_)
          · exact hHeld.alloc hHeld.size _
          clear hK K
          try simp only [Act.put, List.getElem_toArray, List.getElem_cons_zero, List.getElem_cons_succ, List.setIfInBounds_toArray, List.set_cons_zero, List.set_cons_succ]
          refine wpAnyH_ready (rs := [12]) (by kernel_rfl) (by simp) ?_
          refine AllReadyH.cons rfl (fun K hK => ?_) AllReadyH.nil
          go_simp
          go_wp2_with (first | (go_at_call 72; refine ((HN.out _ (B1.out.trans (hHeld.mono B1.out.size))).2.2.2).mono ?_; rintro e y ⟨rfl, rfl⟩))
          refine hK.out _ _ ?_ (fun hHeld => ?_)
          · exact hHeld
          clear hK K
          try simp only [Act.put, List.getElem_toArray, List.getElem_cons_zero, List.getElem_cons_succ, List.setIfInBounds_toArray, List.set_cons_zero, List.set_cons_succ]
          refine wpAnyH_take (i := 13) (v := ?_) rfl (by kernel_rfl) (by kernel_rfl) (by kernel_rfl) (fun _ _ _ h => h) (Or.inl ⟨by kernel_rfl, ?_⟩) hHeld ?_
          rotate_left
          · intro W hSw
            have hn := HN0.out.2.2.2
            have hw3 : IntKind.i64.wrap (n3 : Int) = (n3 : Int) := by rw [IntKind.wrap_i64]; omega
            clear hn
            clear hSw
            go_simp <;> with_reducible rfl
          simp only [Act.put, List.getElem_toArray, List.getElem_cons_zero, List.getElem_cons_succ, List.setIfInBounds_toArray, List.set_cons_zero, List.set_cons_succ]
          refine wpAnyH_ready (rs := [21]) (by kernel_rfl) (by simp) ?_
          refine AllReadyH.cons rfl (fun K hK => ?_) AllReadyH.nil
          go_simp
          go_wp2_with (first | (go_at_call 55; refine (HPD.out _ (B1.out.trans (hHeld.mono B1.out.size))).mono ?_; rintro e y ⟨da, dc, rfl, hiy, hny, hby⟩))
          obtain ⟨⟨z0, z1, z2, z3, z4, zf⟩, hdp⟩ := decp_early hby.out hiy.out hny.out HN0.out
          have HDP := hide hdp
          clear hdp
          refine hK.out _ _ ?_ (fun hHeld => ?_)
          · exact hHeld.trans (hby.out.mono hHeld.size)
          clear hK K
          try simp only [Act.put, List.getElem_toArray, List.getElem_cons_zero, List.getElem_cons_succ, List.setIfInBounds_toArray, List.set_cons_zero, List.set_cons_succ]
          refine wpAnyH_take (i := 22) (v := ?_) rfl (by kernel_rfl) (by kernel_rfl) (by kernel_rfl) (fun _ _ _ h => h) (Or.inl ⟨by kernel_rfl, ?_⟩) hHeld ?_
          rotate_left
          · intro W hSw
            clear hSw
            go_simp <;> with_reducible rfl
          simp only [Act.put, List.getElem_toArray, List.getElem_cons_zero, List.getElem_cons_succ, List.setIfInBounds_toArray, List.set_cons_zero, List.set_cons_succ]
          refine wpAnyH_ready (rs := [24]) (by kernel_rfl) (by simp) ?_
          refine AllReadyH.cons rfl (fun K hK => ?_) AllReadyH.nil
          go_simp
          refine hK.out _ _ ?_ (fun hHeld => ?_)
          · exact HDP.out.2
          clear hK K
          try simp only [Act.put, List.getElem_toArray, List.getElem_cons_zero, List.getElem_cons_succ, List.setIfInBounds_toArray, List.set_cons_zero, List.set_cons_succ]
          refine wpAnyH_done (by kernel_rfl) ?_ _
          exact HREST _ _ _ _ (hide HDP.out.1)
      · go_simp
        refine hK.out _ _ ?_ (fun hHeld => ?_)
        · exact hHeld.alloc hHeld.size _
        clear hK K
        try simp only [Act.put, List.getElem_toArray, List.getElem_cons_zero, List.getElem_cons_succ, List.setIfInBounds_toArray, List.set_cons_zero, List.set_cons_succ]
        refine wpAnyH_ready (rs := [8]) (by kernel_rfl) (by simp) ?_
        refine AllReadyH.cons rfl (fun K hK => ?_) AllReadyH.nil
        go_simp
        go_wp2_with (first | (go_at_call 72; refine ((HN.out _ (B1.out.trans (hHeld.mono B1.out.size))).2.2.1).mono ?_; rintro e y ⟨rfl, rfl⟩))
        refine hK.out _ _ ?_ (fun hHeld => ?_)
        · exact hHeld
        clear hK K
        try simp only [Act.put, List.getElem_toArray, List.getElem_cons_zero, List.getElem_cons_succ, List.setIfInBounds_toArray, List.set_cons_zero, List.set_cons_succ]
        refine wpAnyH_take (i := 9) (v := ?_) rfl (by kernel_rfl) (by kernel_rfl) (by kernel_rfl) (fun _ _ _ h => h) (Or.inl ⟨by kernel_rfl, ?_⟩) hHeld ?_
        rotate_left
        · intro W hSw
          have hn := HN0.out.2.2.1
          have hw2 : IntKind.i64.wrap (n2 : Int) = (n2 : Int) := by rw [IntKind.wrap_i64]; omega
          clear hn
          clear hSw
          go_simp <;> with_reducible rfl
        simp only [Act.put, List.getElem_toArray, List.getElem_cons_zero, List.getElem_cons_succ, List.setIfInBounds_toArray, List.set_cons_zero, List.set_cons_succ]
        refine wpAnyH_ready (rs := [12]) (by kernel_rfl) (by simp) ?_
        refine AllReadyH.cons rfl (fun K hK => ?_) AllReadyH.nil
        go_simp
        go_wp2_with (first | (go_at_call 72; refine ((HN.out _ (B1.out.trans (hHeld.mono B1.out.size))).2.2.2).mono ?_; rintro e y ⟨rfl, rfl⟩))
        refine hK.out _ _ ?_ (fun hHeld => ?_)
        · exact hHeld
        clear hK K
        try simp only [Act.put, List.getElem_toArray, List.getElem_cons_zero, List.getElem_cons_succ, List.setIfInBounds_toArray, List.set_cons_zero, List.set_cons_succ]
        refine wpAnyH_take (i := 13) (v := ?_) rfl (by kernel_rfl) (by kernel_rfl) (by kernel_rfl) (fun _ _ _ h => h) (Or.inl ⟨by kernel_rfl, ?_⟩) hHeld ?_
        rotate_left
        · intro W hSw
          have hn := HN0.out.2.2.2
          have hw3 : IntKind.i64.wrap (n3 : Int) = (n3 : Int) := by rw [IntKind.wrap_i64]; omega
          clear hn
          clear hSw
          go_simp <;> with_reducible rfl
        simp only [Act.put, List.getElem_toArray, List.getElem_cons_zero, List.getElem_cons_succ, List.setIfInBounds_toArray, List.set_cons_zero, List.set_cons_succ]
        refine wpAnyH_ready (rs := [21]) (by kernel_rfl) (by simp) ?_
        refine AllReadyH.cons rfl (fun K hK => ?_) AllReadyH.nil
        go_simp
        go_wp2_with (first | (go_at_call 55; refine (HPD.out _ (B1.out.trans (hHeld.mono B1.out.size))).mono ?_; rintro e y ⟨da, dc, rfl, hiy, hny, hby⟩))
        obtain ⟨⟨z0, z1, z2, z3, z4, zf⟩, hdp⟩ := decp_early hby.out hiy.out hny.out HN0.out
        have HDP := hide hdp
        clear hdp
        refine hK.out _ _ ?_ (fun hHeld => ?_)
        · exact hHeld.trans (hby.out.mono hHeld.size)
        clear hK K
        try simp only [Act.put, List.getElem_toArray, List.getElem_cons_zero, List.getElem_cons_succ, List.setIfInBounds_toArray, List.set_cons_zero, List.set_cons_succ]
        refine wpAnyH_take (i := 22) (v := ?_) rfl (by kernel_rfl) (by kernel_rfl) (by kernel_rfl) (fun _ _ _ h => h) (Or.inl ⟨by kernel_rfl, ?_⟩) hHeld ?_
        rotate_left
        · intro W hSw
          clear hSw
          go_simp <;> with_reducible rfl
        simp only [Act.put, List.getElem_toArray, List.getElem_cons_zero, List.getElem_cons_succ, List.setIfInBounds_toArray, List.set_cons_zero, List.set_cons_succ]
        refine wpAnyH_ready (rs := [24]) (by kernel_rfl) (by simp) ?_
        refine AllReadyH.cons rfl (fun K hK => ?_) AllReadyH.nil
        go_simp
        refine hK.out _ _ ?_ (fun hHeld => ?_)
        · exact HDP.out.2
        clear hK K
        try simp only [Act.put, List.getElem_toArray, List.getElem_cons_zero, List.getElem_cons_succ, List.setIfInBounds_toArray, List.set_cons_zero, List.set_cons_succ]
        refine wpAnyH_done (by kernel_rfl) ?_ _
        exact HREST _ _ _ _ (hide HDP.out.1)
    · go_simp
      refine hK.out _ _ ?_ (fun hHeld => ?_)
      · exact hHeld.alloc hHeld.size _
      clear hK K
      try simp only [Act.put, List.getElem_toArray, List.getElem_cons_zero, List.getElem_cons_succ, List.setIfInBounds_toArray, List.set_cons_zero, List.set_cons_succ]
      refine wpAnyH_ready (rs := [5]) (by kernel_rfl) (by simp) ?_
      refine AllReadyH.cons rfl (fun K hK => ?_) AllReadyH.nil
      go_simp
      go_wp2_with (first | (go_at_call 72; refine ((HN.out _ (B1.out.trans (hHeld.mono B1.out.size))).2.1).mono ?_; rintro e y ⟨rfl, rfl⟩))
      refine hK.out _ _ ?_ (fun hHeld => ?_)
      · exact hHeld
      clear hK K
      try simp only [Act.put, List.getElem_toArray, List.getElem_cons_zero, List.getElem_cons_succ, List.setIfInBounds_toArray, List.set_cons_zero, List.set_cons_succ]
      refine wpAnyH_ready (rs := [8]) (by kernel_rfl) (by simp) ?_
      refine AllReadyH.cons rfl (fun K hK => ?_) AllReadyH.nil
      go_simp
      go_wp2_with (first | (go_at_call 72; refine ((HN.out _ (B1.out.trans (hHeld.mono B1.out.size))).2.2.1).mono ?_; rintro e y ⟨rfl, rfl⟩))
      refine hK.out _ _ ?_ (fun hHeld => ?_)
      · exact hHeld
      clear hK K
      try simp only [Act.put, List.getElem_toArray, List.getElem_cons_zero, List.getElem_cons_succ, List.setIfInBounds_toArray, List.set_cons_zero, List.set_cons_succ]
      refine wpAnyH_take (i := 9) (v := ?_) rfl (by kernel_rfl) (by kernel_rfl) (by kernel_rfl) (fun _ _ _ h => h) (Or.inl ⟨by kernel_rfl, ?_⟩) hHeld ?_
      rotate_left
      · intro W hSw
        have hn := HN0.out.2.2.1
        have hw2 : IntKind.i64.wrap (n2 : Int) = (n2 : Int) := by rw [IntKind.wrap_i64]; omega
        clear hn
        clear hSw
        go_simp <;> with_reducible rfl
      simp only [Act.put, List.getElem_toArray, List.getElem_cons_zero, List.getElem_cons_succ, List.setIfInBounds_toArray, List.set_cons_zero, List.set_cons_succ]
      refine wpAnyH_ready (rs := [12]) (by kernel_rfl) (by simp) ?_
      refine AllReadyH.cons rfl (fun K hK => ?_) AllReadyH.nil
      go_simp
      go_wp2_with (first | (go_at_call 72; refine ((HN.out _ (B1.out.trans (hHeld.mono B1.out.size))).2.2.2).mono ?_; rintro e y ⟨rfl, rfl⟩))
      refine hK.out _ _ ?_ (fun hHeld => ?_)
      · exact hHeld
      clear hK K
      try simp only [Act.put, List.getElem_toArray, List.getElem_cons_zero, List.getElem_cons_succ, List.setIfInBounds_toArray, List.set_cons_zero, List.set_cons_succ]
      refine wpAnyH_take (i := 13) (v := ?_) rfl (by kernel_rfl) (by kernel_rfl) (by kernel_rfl) (fun _ _ _ h => h) (Or.inl ⟨by kernel_rfl, ?_⟩) hHeld ?_
      rotate_left
      · intro W hSw
        have hn := HN0.out.2.2.2
        have hw3 : IntKind.i64.wrap (n3 : Int) = (n3 : Int) := by rw [IntKind.wrap_i64]; omega
        clear hn
        clear hSw
        go_simp <;> with_reducible rfl
      simp only [Act.put, List.getElem_toArray, List.getElem_cons_zero, List.getElem_cons_succ, List.setIfInBounds_toArray, List.set_cons_zero, List.set_cons_succ]
      refine wpAnyH_ready (rs := [21]) (by kernel_rfl) (by simp) ?_
      refine AllReadyH.cons rfl (fun K hK => ?_) AllReadyH.nil
      go_simp
      go_wp2_with (first | (go_at_call 55; refine (HPD.out _ (B1.out.trans (hHeld.mono B1.out.size))).mono ?_; rintro e y ⟨da, dc, rfl, hiy, hny, hby⟩))
      obtain ⟨⟨z0, z1, z2, z3, z4, zf⟩, hdp⟩ := decp_early hby.out hiy.out hny.out HN0.out
      have HDP := hide hdp
      clear hdp
      refine hK.out _ _ ?_ (fun hHeld => ?_)
      · exact hHeld.trans (hby.out.mono hHeld.size)
      clear hK K
      try simp only [Act.put, List.getElem_toArray, List.getElem_cons_zero, List.getElem_cons_succ, List.setIfInBounds_toArray, List.set_cons_zero, List.set_cons_succ]
      refine wpAnyH_take (i := 22) (v := ?_) rfl (by kernel_rfl) (by kernel_rfl) (by kernel_rfl) (fun _ _ _ h => h) (Or.inl ⟨by kernel_rfl, ?_⟩) hHeld ?_
      rotate_left
      · intro W hSw
        clear hSw
        go_simp <;> with_reducible rfl
      simp only [Act.put, List.getElem_toArray, List.getElem_cons_zero, List.getElem_cons_succ, List.setIfInBounds_toArray, List.set_cons_zero, List.set_cons_succ]
      refine wpAnyH_ready (rs := [24]) (by kernel_rfl) (by simp) ?_
      refine AllReadyH.cons rfl (fun K hK => ?_) AllReadyH.nil
      go_simp
      refine hK.out _ _ ?_ (fun hHeld => ?_)
      · exact HDP.out.2
      clear hK K
      try simp only [Act.put, List.getElem_toArray, List.getElem_cons_zero, List.getElem_cons_succ, List.setIfInBounds_toArray, List.set_cons_zero, List.set_cons_succ]
      refine wpAnyH_done (by kernel_rfl) ?_ _
      exact HREST _ _ _ _ (hide HDP.out.1)
  · go_simp
    refine hK.out _ _ ?_ (fun hHeld => ?_)
    · exact hHeld.alloc hHeld.size _
    clear hK K
    try simp only [Act.put, List.getElem_toArray, List.getElem_cons_zero, List.getElem_cons_succ, List.setIfInBounds_toArray, List.set_cons_zero, List.set_cons_succ]
    refine wpAnyH_ready (rs := [2]) (by kernel_rfl) (by simp) ?_
    refine AllReadyH.cons rfl (fun K hK => ?_) AllReadyH.nil
    go_simp
    go_wp2_with (first | (go_at_call 72; refine ((HN.out _ (B1.out.trans (hHeld.mono B1.out.size))).1).mono ?_; rintro e y ⟨rfl, rfl⟩))
    refine hK.out _ _ ?_ (fun hHeld => ?_)
    · exact hHeld
    clear hK K
    try simp only [Act.put, List.getElem_toArray, List.getElem_cons_zero, List.getElem_cons_succ, List.setIfInBounds_toArray, List.set_cons_zero, List.set_cons_succ]
    refine wpAnyH_ready (rs := [5]) (by kernel_rfl) (by simp) ?_
    refine AllReadyH.cons rfl (fun K hK => ?_) AllReadyH.nil
    go_simp
    go_wp2_with (first | (go_at_call 72; refine ((HN.out _ (B1.out.trans (hHeld.mono B1.out.size))).2.1).mono ?_; rintro e y ⟨rfl, rfl⟩))
    refine hK.out _ _ ?_ (fun hHeld => ?_)
    · exact hHeld
    clear hK K
    try simp only [Act.put, List.getElem_toArray, List.getElem_cons_zero, List.getElem_cons_succ, List.setIfInBounds_toArray, List.set_cons_zero, List.set_cons_succ]
    refine wpAnyH_ready (rs := [8]) (by kernel_rfl) (by simp) ?_
    refine AllReadyH.cons rfl (fun K hK => ?_) AllReadyH.nil
    go_simp
    go_wp2_with (first | (go_at_call 72; refine ((HN.out _ (B1.out.trans (hHeld.mono B1.out.size))).2.2.1).mono ?_; rintro e y ⟨rfl, rfl⟩))
    refine hK.out _ _ ?_ (fun hHeld => ?_)
    · exact hHeld
    clear hK K
    try simp only [Act.put, List.getElem_toArray, List.getElem_cons_zero, List.getElem_cons_succ, List.setIfInBounds_toArray, List.set_cons_zero, List.set_cons_succ]
    refine wpAnyH_take (i := 9) (v := ?_) rfl (by kernel_rfl) (by kernel_rfl) (by kernel_rfl) (fun _ _ _ h => h) (Or.inl ⟨by kernel_rfl, ?_⟩) hHeld ?_
    rotate_left
    · intro W hSw
      have hn := HN0.out.2.2.1
      have hw2 : IntKind.i64.wrap (n2 : Int) = (n2 : Int) := by rw [IntKind.wrap_i64]; omega
      clear hn
      clear hSw
      go_simp <;> with_reducible rfl
    simp only [Act.put, List.getElem_toArray, List.getElem_cons_zero, List.getElem_cons_succ, List.setIfInBounds_toArray, List.set_cons_zero, List.set_cons_succ]
    refine wpAnyH_ready (rs := [12]) (by kernel_rfl) (by simp) ?_
    refine AllReadyH.cons rfl (fun K hK => ?_) AllReadyH.nil
    go_simp
    go_wp2_with (first | (go_at_call 72; refine ((HN.out _ (B1.out.trans (hHeld.mono B1.out.size))).2.2.2).mono ?_; rintro e y ⟨rfl, rfl⟩))
    refine hK.out _ _ ?_ (fun hHeld => ?_)
    · exact hHeld
    clear hK K
    try simp only [Act.put, List.getElem_toArray, List.getElem_cons_zero, List.getElem_cons_succ, List.setIfInBounds_toArray, List.set_cons_zero, List.set_cons_succ]
    refine wpAnyH_take (i := 13) (v := ?_) rfl (by kernel_rfl) (by kernel_rfl) (by kernel_rfl) (fun _ _ _ h => h) (Or.inl ⟨by kernel_rfl, ?_⟩) hHeld ?_
    rotate_left
    · intro W hSw
      have hn := HN0.out.2.2.2
      have hw3 : IntKind.i64.wrap (n3 : Int) = (n3 : Int) := by rw [IntKind.wrap_i64]; omega
      clear hn
      clear hSw
      go_simp <;> with_reducible rfl
    simp only [Act.put, List.getElem_toArray, List.getElem_cons_zero, List.getElem_cons_succ, List.setIfInBounds_toArray, List.set_cons_zero, List.set_cons_succ]
    refine wpAnyH_ready (rs := [21]) (by kernel_rfl) (by simp) ?_
    refine AllReadyH.cons rfl (fun K hK => ?_) AllReadyH.nil
    go_simp
    go_wp2_with (first | (go_at_call 55; refine (HPD.out _ (B1.out.trans (hHeld.mono B1.out.size))).mono ?_; rintro e y ⟨da, dc, rfl, hiy, hny, hby⟩))
    obtain ⟨⟨z0, z1, z2, z3, z4, zf⟩, hdp⟩ := decp_early hby.out hiy.out hny.out HN0.out
    have HDP := hide hdp
    clear hdp
    refine hK.out _ _ ?_ (fun hHeld => ?_)
    · exact hHeld.trans (hby.out.mono hHeld.size)
    clear hK K
    try simp only [Act.put, List.getElem_toArray, List.getElem_cons_zero, List.getElem_cons_succ, List.setIfInBounds_toArray, List.set_cons_zero, List.set_cons_succ]
    refine wpAnyH_take (i := 22) (v := ?_) rfl (by kernel_rfl) (by kernel_rfl) (by kernel_rfl) (fun _ _ _ h => h) (Or.inl ⟨by kernel_rfl, ?_⟩) hHeld ?_
    rotate_left
    · intro W hSw
      clear hSw
      go_simp <;> with_reducible rfl
    simp only [Act.put, List.getElem_toArray, List.getElem_cons_zero, List.getElem_cons_succ, List.setIfInBounds_toArray, List.set_cons_zero, List.set_cons_succ]
    refine wpAnyH_ready (rs := [24]) (by kernel_rfl) (by simp) ?_
    refine AllReadyH.cons rfl (fun K hK => ?_) AllReadyH.nil
    go_simp
    refine hK.out _ _ ?_ (fun hHeld => ?_)
    · exact HDP.out.2
    clear hK K
    try simp only [Act.put, List.getElem_toArray, List.getElem_cons_zero, List.getElem_cons_succ, List.setIfInBounds_toArray, List.set_cons_zero, List.set_cons_succ]
    refine wpAnyH_done (by kernel_rfl) ?_ _
    exact HREST _ _ _ _ (hide HDP.out.1)
theorem pdec_new (bv : Value) (b : Bs) (w : World) (hY : IsY w bv b) (hl : b.length ≤ 1000000) : Calls Try.prog 61 #[bv] w (PDecN w b bv) := by
  by_cases h : b.length = 64
  · by_cases h3 : (b[20]'(by omega)).toNat ≤ 39
    · exact pdec_sector bv b w hY h h3
    · exact pdec_long bv b w hY h (by omega)
  · exact pdec_short bv b w hY hl h
theorem pdec_any (bv : Value) (b : Bs) (w : World) (hY : IsY w bv b) (hl : b.length ≤ 1000000) : Calls Try.prog 61 #[bv] w (PDecR w b) := (pdec_new bv b w hY hl).mono fun e w' h => h.1
end Go.Proofs.Ythpepkfodcgbcaa
