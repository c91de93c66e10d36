/- What Parse answers. -/
import Derived.Test.YthopnliaikkhbaaGreatDoorSy11
set_option linter.unusedVariables false
set_option linter.unusedSimpArgs false
set_option maxRecDepth 4000
namespace Go.Proofs.YthopnliaikkhbaaGreatDoor
open Go.RowKit

def NoStr (w : World) (A : Nat) : Prop := ∀ j s, w.cell? ⟨A, j, none⟩ ≠ some (.string s)
theorem IsW.but {w W : World} {v : Value} {l : List Bs} {A : Nat} (h : IsW w v l) (hn : NoStr w A) (hk : ∀ k, k ≠ A → W.heap[k]? = w.heap[k]?) : IsW W v l := by
  rcases h with h | ⟨b, o, cap, rfl, hc⟩
  · exact .inl h
  · refine .inr ⟨b, o, cap, rfl, fun j hj => ?_⟩
    have hb : b ≠ A := fun e => by subst e; exact hn _ _ (hc j hj)
    exact (World.cell?_of_block (a := ⟨b, o + j, none⟩) (hk b hb)).trans (hc j hj)
theorem IsPo.but {w W : World} {q : PV} {A : Nat} (h : IsPo w q) (hn : NoStr w A) (hk : ∀ k, k ≠ A → W.heap[k]? = w.heap[k]?) : IsPo W q := by
  refine ⟨⟨?_, fun r hr => (h.r.2 r hr).but hn hk⟩, h.l.but hn hk, h.s.but hn hk, h.d.but hn hk⟩
  rcases h.r.1 with h1 | ⟨b, o, cap, e, hc⟩
  · exact .inl h1
  · refine .inr ⟨b, o, cap, e, fun j hj => ?_⟩
    have hb : b ≠ A := fun e => by subst e; exact hn _ _ (hc j hj).1
    exact ⟨(World.cell?_of_block (a := ⟨b, o + j * 2, none⟩) (hk b hb)).trans (hc j hj).1, (World.cell?_of_block (a := ⟨b, o + j * 2 + 1, none⟩) (hk b hb)).trans (hc j hj).2⟩
theorem noStr_zero {w : World} {A : Nat} (h : w.heap[A]? = some (.cells (poC zeroPV) 26 (0, 0))) : NoStr w A := by
  intro j s e
  simp only [World.cell?, h] at e
  match j with
  | 0 => simp [poC, zeroPV] at e
  | 1 => simp [poC, zeroPV] at e
  | 2 => simp [poC, zeroPV] at e
  | 3 => simp [poC, zeroPV] at e
  | 4 => simp [poC, zeroPV] at e
  | j + 5 => simp [poC, zeroPV] at e
theorem set5_other (w : World) (A : Nat) (v0 v1 v2 v3 v4 : Value) : ∀ k, k ≠ A → (set5 w A v0 v1 v2 v3 v4).heap[k]? = w.heap[k]? := fun k hk => by
  unfold set5
  rw [Below.heap_setCell _ _ _ _ hk, Below.heap_setCell _ _ _ _ hk, Below.heap_setCell _ _ _ _ hk, Below.heap_setCell _ _ _ _ hk, Below.heap_setCell _ _ _ _ hk]
theorem below_set5 {w0 w : World} (h : Below w0.heap.size w0 w) (v0 v1 v2 v3 v4 : Value) : Below w0.heap.size w0 (set5 w w0.heap.size v0 v1 v2 v3 v4) := by
  unfold set5
  exact ((((h.setCell (p := ⟨w0.heap.size, 0, none⟩) (Nat.le_refl _) _).setCell (p := ⟨w0.heap.size, 1, none⟩) (Nat.le_refl _) _).setCell (p := ⟨w0.heap.size, 2, none⟩) (Nat.le_refl _) _).setCell (p := ⟨w0.heap.size, 3, none⟩) (Nat.le_refl _) _).setCell (p := ⟨w0.heap.size, 4, none⟩) (Nat.le_refl _) _
/-- What is parsed. -/
def ParseD (w : World) (R : PO × Nat × Int) (e : Ending) (w' : World) : Prop := ∃ q : PV, q.po = R.1 ∧ e = .returned (.tuple #[poA q, .int .i64 (R.2.1 : Int), .int .i64 R.2.2]) ∧ IsPo w' q ∧ CapP q ∧ Below w.heap.size w w'
theorem isPo_zero (w : World) : IsPo w zeroPV := ⟨⟨.inl ⟨rfl, _, _, rfl⟩, fun r hr => by cases hr⟩, .inl ⟨rfl, _, _, rfl⟩, .inl ⟨rfl, _, _, rfl⟩, .inl ⟨rfl, _, _, rfl⟩⟩
theorem cap_nil : ∀ (a : Option Addr) (n c : Nat), (Value.slice none 0 0) = .slice a n c → n ≤ c := fun a n c e => by
  injection e with e1 e2 e3
  omega
theorem cap_zero : CapP zeroPV := ⟨⟨by decide, by decide, by decide, by decide, fun r hr => (by cases hr), fun x hx => (by cases hx), fun x hx => (by cases hx), fun x hx => (by cases hx)⟩, cap_nil, cap_nil, cap_nil, fun r hr => (by cases hr)⟩
theorem parse_zero {w w' : World} {n : Nat} {e : Int} (h : Below w.heap.size w w') : ParseD w ({}, n, e) (.returned (.tuple #[poA zeroPV, .int .i64 (n : Int), .int .i64 e])) w' := ⟨zeroPV, rfl, rfl, isPo_zero w', cap_zero, h⟩
theorem box5 {w : World} {A : Nat} (h : w.heap[A]? = some (.cells (poC zeroPV) 26 (0, 0))) : w.cell? ⟨A, 0, none⟩ = some (.slice none 0 0) ∧ w.cell? ⟨A, 1, none⟩ = some (.slice none 0 0) ∧ w.cell? ⟨A, 2, none⟩ = some (.slice none 0 0) ∧ w.cell? ⟨A, 3, none⟩ = some (.slice none 0 0) ∧ w.cell? ⟨A, 4, none⟩ = some (.int .i64 0) ∧ w.frozen? ⟨A, 0, none⟩ = false ∧ w.frozen? ⟨A, 1, none⟩ = false ∧ w.frozen? ⟨A, 2, none⟩ = false ∧ w.frozen? ⟨A, 3, none⟩ = false ∧ w.frozen? ⟨A, 4, none⟩ = false := by
  refine ⟨?_, ?_, ?_, ?_, ?_, ?_, ?_, ?_, ?_, ?_⟩ <;> simp [World.cell?, World.frozen?, h, zeroPV]
theorem read_pos : ∀ (l : List Bs) (n : Nat) (p : PO) (m : Nat), readK n p l = .inr m → n < m
  | [], n, p, m, h => by cases h
  | x :: l, n, p, m, h => by
    rw [readK] at h
    cases hL : lineL p x with
    | none =>
      rw [hL] at h
      have := Sum.inr.inj h
      omega
    | some q =>
      rw [hL] at h
      have := read_pos l (n + 1) q m h
      omega
set_option maxHeartbeats 2000000 in
theorem parse_any (s : ByteArray) (hs : s.size ≤ 1000000) (w : World) :
    Calls Tryz.prog 7 #[.string s] w fun e w' => ParseD w (parseP s.data.toList) e w' := by
  by_cases hl : 2000 < s.size
  · have hli : (2000 : Int) < s.size := by omega
    have e : parseP s.data.toList = ({}, 0, 4) := by unfold parseP; rw [← size_list, if_pos hl]
    rw [e]
    have HK := hide (parse_zero (n := 0) (e := 4) (below_alloc w (.cells (poC zeroPV) 26)))
    clear hl e
    go_enter Tryz.func7, Tryz.ntmps7
    go_wp2
    refine bodyPost_ret (v := .tuple #[poA zeroPV, .int .i64 ((0 : Nat) : Int), .int .i64 4]) ?_ rfl HK.out
    simp [results, Tryz.results7, go_sem, zeroPV]
  · have hli : ¬ (2000 : Int) < s.size := by omega
    have hb0 := below_alloc w (.cells (poC zeroPV) 26)
    have HRD := hide (read_any s (by omega) (w.alloc (.cells (poC zeroPV) 26)))
    have e0 : parseP s.data.toList = (match readK 0 {} (linesL s.data.toList) with
      | .inr n => ({}, n, 7)
      | .inl p => if checkP p = 0 then (p, 0, 0) else ({}, 0, checkP p)) := by
      unfold parseP
      rw [← size_list, if_neg hl]
      cases readK 0 {} (linesL s.data.toList) <;> rfl
    rw [e0]
    have hbx : ∀ x, Below (w.alloc (.cells (poC zeroPV) 26)).heap.size (w.alloc (.cells (poC zeroPV) 26)) x → x.heap[w.heap.size]? = some (.cells (poC zeroPV) 26 (0, 0)) := fun x hx => (hx.block w.heap.size (by simp)).trans (heap_alloc_new w _)
    have HBX := hide hbx
    clear hbx e0
    cases hR : readK 0 {} (linesL s.data.toList) with
    | inr n =>
      rw [hR] at HRD
      have hn := read_pos _ _ _ _ hR
      have HRD' : Hid (Calls Tryz.prog 17 #[.string s] (w.alloc (.cells (poC zeroPV) 26)) fun e w' => e = .returned (.tuple #[.agg #[.slice none 0 0, .slice none 0 0, .slice none 0 0, .slice none 0 0, .int .i64 0], .int .i64 (n : Int)]) ∧ Hid (Below (w.alloc (.cells (poC zeroPV) 26)).heap.size (w.alloc (.cells (poC zeroPV) 26)) w')) := hide (HRD.out.mono fun e w' h => ⟨h.1, hide h.2⟩)
      clear HRD hR
      have hni : (0 : Int) < n := by omega
      have HK := hide (fun w1 (b1 : Below (w.alloc (.cells (poC zeroPV) 26)).heap.size (w.alloc (.cells (poC zeroPV) 26)) w1) o v0 v1 v2 v3 v4 =>
        have b2 := hb0.trans (b1.mono hb0.size)
        parse_zero (n := n) (e := 7) (below_set5 (b2.trans ((below_alloc w1 o).mono b2.size)) v0 v1 v2 v3 v4))
      have HCE := hide (fun w1 (b1 : Below (w.alloc (.cells (poC zeroPV) 26)).heap.size (w.alloc (.cells (poC zeroPV) 26)) w1) => box5 (HBX.out (w1.alloc (.cells #[.slice none 0 0, .slice none 0 0, .slice none 0 0, .slice none 0 0, .int .i64 0] 26)) (b1.trans ((below_alloc w1 (.cells #[.slice none 0 0, .slice none 0 0, .slice none 0 0, .slice none 0 0, .int .i64 0] 26)).mono b1.size))))
      simp only []
      clear hn hl hb0 HBX
      go_enter Tryz.func7, Tryz.ntmps7
      go_wp2_with fail
      refine HRD'.out.mono ?_
      rintro e w1 ⟨rfl, b1⟩
      obtain ⟨c0, c1, c2, c3, c4, f0, f1, f2, f3, f4⟩ := HCE.out w1 b1.out
      have HK2 := hide (HK.out w1 b1.out)
      clear HK HCE b1
      go_wp2
      refine bodyPost_ret (v := .tuple #[poA zeroPV, .int .i64 (n : Int), .int .i64 7]) ?_ rfl (HK2.out _ _ _ _ _ _)
      simp [results, Tryz.results7, go_sem, zeroPV, c0, c1, c2, c3, c4]
    | inl p =>
      rw [hR] at HRD
      clear hR
      have HRD' : Hid (Calls Tryz.prog 17 #[.string s] (w.alloc (.cells (poC zeroPV) 26)) fun e w' => ∃ q : PV, e = .returned (.tuple #[poA q, .int .i64 0]) ∧ Hid (q.po = p) ∧ Hid (IsPo w' q) ∧ Hid (CapP q) ∧ Hid (Below (w.alloc (.cells (poC zeroPV) 26)).heap.size (w.alloc (.cells (poC zeroPV) 26)) w')) := hide (HRD.out.mono fun e w' h => by
        obtain ⟨⟨q, h1, h2, h3, h4⟩, h5⟩ := h
        exact ⟨q, h2, hide h1, hide h3, hide h4, hide h5⟩)
      have HP : Hid (∀ w1 (q : PV), q.po = p → IsPo w1 q → CapP q → Below (w.alloc (.cells (poC zeroPV) 26)).heap.size (w.alloc (.cells (poC zeroPV) 26)) w1 → Calls Tryz.prog 14 #[poA q] (poW w1 q) fun e w2 => e = .returned (.int .i64 (checkP p)) ∧ Hid (Below (poW w1 q).heap.size (poW w1 q) w2)) := hide (fun w1 q h1 h2 h3 h4 => (check_any q h3 (poW w1 q) (h2.below (below_alloc w1 _))).mono fun e w2 h => ⟨by rw [h.1, h1], hide h.2⟩)
      have HZ : Hid (∀ w1 (q : PV) w2, q.po = p → IsPo w1 q → CapP q → Below (w.alloc (.cells (poC zeroPV) 26)).heap.size (w.alloc (.cells (poC zeroPV) 26)) w1 → Below (poW w1 q).heap.size (poW w1 q) w2 → w2.heap[w.heap.size]? = some (.cells (poC zeroPV) 26 (0, 0)) ∧ (∀ e : Int, ∀ v0 v1 v2 v3 v4, ParseD w ({}, 0, e) (.returned (.tuple #[poA zeroPV, .int .i64 ((0 : Nat) : Int), .int .i64 e])) (set5 w2 w.heap.size v0 v1 v2 v3 v4)) ∧ (∀ v0 v1 v2 v3 v4, ParseD w (p, 0, 0) (.returned (.tuple #[poA q, .int .i64 ((0 : Nat) : Int), .int .i64 0])) (set5 w2 w.heap.size v0 v1 v2 v3 v4)) ∧ w2.cell? ⟨w1.heap.size, 0, none⟩ = some q.rv ∧ w2.cell? ⟨w1.heap.size, 1, none⟩ = some q.lv ∧ w2.cell? ⟨w1.heap.size, 2, none⟩ = some q.sv ∧ w2.cell? ⟨w1.heap.size, 3, none⟩ = some q.dv ∧ w2.cell? ⟨w1.heap.size, 4, none⟩ = some (.int .i64 q.de)) := hide (fun w1 q w2 h1 h2 h3 h4 h5 => by
        obtain ⟨c0, c1, c2, c3, c4, b3⟩ := po_box w1 q h5
        have b4 := h4.trans (b3.mono h4.size)
        have hh := HBX.out w2 b4
        have b5 := hb0.trans (b4.mono hb0.size)
        refine ⟨hh, fun e v0 v1 v2 v3 v4 => parse_zero (n := 0) (e := e) (below_set5 b5 v0 v1 v2 v3 v4), fun v0 v1 v2 v3 v4 => ⟨q, h1, rfl, (h2.below b3).but (noStr_zero hh) (set5_other w2 w.heap.size v0 v1 v2 v3 v4), h3, below_set5 b5 v0 v1 v2 v3 v4⟩, c0, c1, c2, c3, c4⟩)
      simp only []
      generalize checkP p = c at *
      by_cases hc : c = 0
      · subst hc
        rw [if_pos rfl]
        clear hl hb0 HBX
        go_enter Tryz.func7, Tryz.ntmps7
        go_wp2_with fail
        refine HRD'.out.mono ?_
        rintro e w1 ⟨q, rfl, h1, h2, h3, h4⟩
        have HQ := hide (HP.out w1 q h1.out h2.out h3.out h4.out)
        have HZ2 := hide (fun w2 h5 => HZ.out w1 q w2 h1.out h2.out h3.out h4.out h5)
        obtain ⟨a0, d0, e0⟩ := h2.out.r.form
        obtain ⟨a1, d1, e1⟩ := h2.out.l.form
        obtain ⟨a2, d2, e2⟩ := h2.out.s.form
        obtain ⟨a3, d3, e3⟩ := h2.out.d.form
        clear h1 h2 h3 h4 HP HZ HRD' HRD
        obtain ⟨rs, li, sc, dr, de, rv, lv, sv, dv⟩ := q
        simp only [] at e0 e1 e2 e3 HQ HZ2
        subst e0 e1 e2 e3
        generalize rs.length = n0 at *
        generalize li.length = n1 at *
        generalize sc.length = n2 at *
        generalize dr.length = n3 at *
        go_wp2_with fail
        refine HQ.out.mono ?_
        rintro e w2 ⟨rfl, h5⟩
        obtain ⟨hh, z1, z2, k0, k1, k2, k3, k4⟩ := HZ2.out w2 h5.out
        obtain ⟨c0, c1, c2, c3, c4, f0, f1, f2, f3, f4⟩ := box5 hh
        have Z2 := hide z2
        clear hh z1 z2 HZ2 h5
        go_wp2
        refine bodyPost_ret (v := .tuple #[.agg #[.slice a0 n0 d0, .slice a1 n1 d1, .slice a2 n2 d2, .slice a3 n3 d3, .int .i64 de], .int .i64 ((0 : Nat) : Int), .int .i64 0]) ?_ rfl (Z2.out _ _ _ _ _)
        simp [results, Tryz.results7, go_sem, c0, c1, c2, c3, c4]
      · have hci : (c != 0) = true := by rw [bne_iff_ne]; exact hc
        rw [if_neg hc]
        clear hl hb0 HBX hc
        go_enter Tryz.func7, Tryz.ntmps7
        go_wp2_with fail
        refine HRD'.out.mono ?_
        rintro e w1 ⟨q, rfl, h1, h2, h3, h4⟩
        have HQ := hide (HP.out w1 q h1.out h2.out h3.out h4.out)
        have HZ2 := hide (fun w2 h5 => HZ.out w1 q w2 h1.out h2.out h3.out h4.out h5)
        obtain ⟨a0, d0, e0⟩ := h2.out.r.form
        obtain ⟨a1, d1, e1⟩ := h2.out.l.form
        obtain ⟨a2, d2, e2⟩ := h2.out.s.form
        obtain ⟨a3, d3, e3⟩ := h2.out.d.form
        clear h1 h2 h3 h4 HP HZ HRD' HRD
        obtain ⟨rs, li, sc, dr, de, rv, lv, sv, dv⟩ := q
        simp only [] at e0 e1 e2 e3 HQ HZ2
        subst e0 e1 e2 e3
        generalize rs.length = n0 at *
        generalize li.length = n1 at *
        generalize sc.length = n2 at *
        generalize dr.length = n3 at *
        go_wp2_with fail
        refine HQ.out.mono ?_
        rintro e w2 ⟨rfl, h5⟩
        obtain ⟨hh, z1, z2, k0, k1, k2, k3, k4⟩ := HZ2.out w2 h5.out
        obtain ⟨c0, c1, c2, c3, c4, f0, f1, f2, f3, f4⟩ := box5 hh
        have Z1 := hide z1
        clear hh z1 z2 HZ2 h5
        go_wp2
        refine bodyPost_ret (v := .tuple #[poA zeroPV, .int .i64 ((0 : Nat) : Int), .int .i64 c]) ?_ rfl (Z1.out _ _ _ _ _ _)
        simp [results, Tryz.results7, go_sem, zeroPV, c0, c1, c2, c3, c4]
end Go.Proofs.YthopnliaikkhbaaGreatDoor
