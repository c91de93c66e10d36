/- What the document's line and Parse answer. -/
import Derived.Test.YthopnliaikkhbaaGreatDoorQm11
set_option linter.unusedVariables false
set_option linter.unusedSimpArgs false
set_option maxRecDepth 4000
namespace Go.Proofs.YthopnliaikkhbaaGreatDoor
open Go.RowKit

theorem rline_any (p : PV) (s : ByteArray) (hs : s.size ≤ 4000) (w : World) (hI : IsPo w p) (hC : CapQ p) (hz : sizeP p.po ≤ 9000) :
    Calls Tryz.prog 18 #[poA p, .string s] w fun e w' => LineD w (lineL p.po s.data.toList) e w' := by
  cases hW : wordsL s.data.toList with
  | nil =>
    have e : lineL p.po s.data.toList = some p.po := by unfold lineL; rw [hW]
    rw [e]
    exact rline_none p s hs w hI hC hz hW
  | cons x r =>
    have h0 : 0 < s.size := by
      rcases Nat.eq_zero_or_pos s.size with h | h
      · have : s.data.toList = [] := List.eq_nil_of_length_eq_zero (by rw [← size_list]; exact h)
        rw [this] at hW
        cases hW
      · exact h
    by_cases h35 : (s[0]'h0).toNat = 35
    · have e : lineL p.po s.data.toList = some p.po := by
        unfold lineL
        rw [hW]
        simp only []
        rw [if_pos]
        rw [head_is s h0]
        congr 1
        exact UInt8.toNat_inj.1 h35
      rw [e]
      exact rline_note p s hs w hI hC hz h0 h35 x r hW
    · have hh : ¬ s.data.toList.head? = some 35 := by
        rw [head_is s h0]
        intro e
        apply h35
        rw [Option.some.inj e]
        rfl
      by_cases n1 : x = deepN
      · match r, hW with
        | [], hW =>
          have e : lineL p.po s.data.toList = none := by
            unfold lineL
            rw [hW]
            simp only []
            rw [if_neg hh, if_pos n1]
          rw [e]
          exact rline_deep1 p s hs w hI hC hz h0 h35 x _ hW n1 (by simp)
        | [d], hW =>
          cases hd : deepL d with
          | none =>
            have e : lineL p.po s.data.toList = none := by
              unfold lineL
              rw [hW]
              simp only []
              rw [if_neg hh, if_pos n1]
              simp [hd]
            rw [e]
            exact rline_deepN p s hs w hI hC hz h0 h35 x _ hW n1 d rfl hd
          | some k =>
            have e : lineL p.po s.data.toList = some { p.po with de := (k : Int) } := by
              unfold lineL
              rw [hW]
              simp only []
              rw [if_neg hh, if_pos n1]
              simp [hd]
            rw [e]
            exact rline_deepS p s hs w hI hC hz h0 h35 x _ hW n1 d rfl k hd
        | a :: b :: l, hW =>
          have e : lineL p.po s.data.toList = none := by
            unfold lineL
            rw [hW]
            simp only []
            rw [if_neg hh, if_pos n1]
          rw [e]
          exact rline_deep1 p s hs w hI hC hz h0 h35 x _ hW n1 (by simp)
      · by_cases n2 : x = elemN
        · match r, hW with
          | [], hW =>
            have e : lineL p.po s.data.toList = none := by
              unfold lineL
              rw [hW]
              simp only []
              rw [if_neg hh, if_neg n1, if_pos n2]
            rw [e]
            exact rline_elemN p s hs w hI hC hz h0 h35 x _ hW n1 n2 rfl
          | y :: l, hW =>
            have e : lineL p.po s.data.toList = some { p.po with ru := p.po.ru ++ [⟨y, l⟩] } := by
              unfold lineL
              rw [hW]
              simp only []
              rw [if_neg hh, if_neg n1, if_pos n2]
            rw [e]
            exact rline_elemS p s hs w hI hC hz h0 h35 x _ hW n1 n2 y l rfl
        · by_cases n3 : x = linkN
          · have e : lineL p.po s.data.toList = some { p.po with li := p.po.li ++ r } := by
              unfold lineL
              rw [hW]
              simp only []
              rw [if_neg hh, if_neg n1, if_neg n2, if_pos n3]
            rw [e]
            exact rline_link p s hs w hI hC hz h0 h35 x r hW n1 n2 n3
          · by_cases n4 : x = schemeN
            · have e : lineL p.po s.data.toList = some { p.po with sc := p.po.sc ++ r } := by
                unfold lineL
                rw [hW]
                simp only []
                rw [if_neg hh, if_neg n1, if_neg n2, if_neg n3, if_pos n4]
              rw [e]
              exact rline_scheme p s hs w hI hC hz h0 h35 x r hW n1 n2 n3 n4
            · by_cases n5 : x = dropN
              · have e : lineL p.po s.data.toList = some { p.po with dr := p.po.dr ++ r } := by
                  unfold lineL
                  rw [hW]
                  simp only []
                  rw [if_neg hh, if_neg n1, if_neg n2, if_neg n3, if_neg n4, if_pos n5]
                rw [e]
                exact rline_drop p s hs w hI hC hz h0 h35 x r hW n1 n2 n3 n4 n5
              · have e : lineL p.po s.data.toList = none := by
                  unfold lineL
                  rw [hW]
                  simp only []
                  rw [if_neg hh, if_neg n1, if_neg n2, if_neg n3, if_neg n4, if_neg n5]
                rw [e]
                exact rline_other p s hs w hI hC hz h0 h35 x r hW n1 n2 n3 n4 n5
theorem setCell_box {w : World} {A : Nat} {cs : Array Value} {T : TypeId} {f : Nat × Nat} (h : w.heap[A]? = some (.cells cs T f)) (i : Nat) (v : Value) : (w.setCell ⟨A, i, none⟩ v).heap[A]? = some (.cells (cs.setIfInBounds i v) T f) := by
  simp [World.setCell, Array.getElem?_modify, h]
theorem set5_box {w : World} {A : Nat} {p q : PV} (h : w.heap[A]? = some (.cells (poC p) 26 (0, 0))) : (set5 w A q.rv q.lv q.sv q.dv (.int .i64 q.de)).heap[A]? = some (.cells (poC q) 26 (0, 0)) := by
  unfold set5
  rw [setCell_box (setCell_box (setCell_box (setCell_box (setCell_box h 0 q.rv) 1 q.lv) 2 q.sv) 3 q.dv) 4 (.int .i64 q.de)]
  rfl
/-- What stands while Parse reads on. -/
structure PS (w : World) (q : PV) (wr : World) : Prop where
  z : wr.heap[w.heap.size]? = some (.cells (poC zeroPV) 26 (0, 0))
  p : wr.heap[w.heap.size + 1]? = some (.cells (poC q) 26 (0, 0))
  i : IsPo wr q
  b : Below w.heap.size w wr
  s : w.heap.size + 2 ≤ wr.heap.size
theorem PS.drew {w wr : World} {q : PV} (h : PS w q wr) : PS w q wr.drew := ⟨h.z, h.p, h.i.below (Below.refl _ _).drew, h.b.drew, h.s⟩
theorem PS.below {w wr W : World} {q : PV} (h : PS w q wr) (hb : Below wr.heap.size wr W) : PS w q W := ⟨(hb.block _ (by have := h.s; omega)).trans h.z, (hb.block _ (by have := h.s; omega)).trans h.p, h.i.below hb, h.b.trans (hb.mono h.b.size), Nat.le_trans h.s hb.size⟩
theorem below_set5G {w X : World} {b : Nat} (hb : w.heap.size ≤ b) (h : Below w.heap.size w X) (v0 v1 v2 v3 v4 : Value) : Below w.heap.size w (set5 X b v0 v1 v2 v3 v4) :=
  ((((h.setCell (p := ⟨b, 0, none⟩) hb _).setCell (p := ⟨b, 1, none⟩) hb _).setCell (p := ⟨b, 2, none⟩) hb _).setCell (p := ⟨b, 3, none⟩) hb _).setCell (p := ⟨b, 4, none⟩) hb _
theorem set5_size (X : World) (b : Nat) (v0 v1 v2 v3 v4 : Value) : (set5 X b v0 v1 v2 v3 v4).heap.size = X.heap.size := by simp [set5, World.setCell]
/-- The box of what a line said, filled. -/
structure NB (w : World) (q q' : PV) (b : Nat) (Y : World) : Prop where
  z : Y.heap[w.heap.size]? = some (.cells (poC zeroPV) 26 (0, 0))
  p : Y.heap[w.heap.size + 1]? = some (.cells (poC q) 26 (0, 0))
  n : Y.heap[b]? = some (.cells (poC q') 26 (0, 0))
  fin : PS w q' (set5 Y (w.heap.size + 1) q'.rv q'.lv q'.sv q'.dv (.int .i64 q'.de))
  bad : ∀ (n : Nat) v0 v1 v2 v3 v4, ParseD w ({}, n, 7) (.returned (.tuple #[poA zeroPV, .int .i64 (n : Int), .int .i64 7])) (set5 Y w.heap.size v0 v1 v2 v3 v4)
theorem nb_of {w X W : World} {q q' : PV} {b : Nat} (h : PS w q X) (hb : X.heap[b]? = some (.cells (poC zeroPV) 26 (0, 0))) (hn : w.heap.size + 1 < b) (hI : IsPo X q') : NB w q q' b (set5 X b q'.rv q'.lv q'.sv q'.dv (.int .i64 q'.de)) := by
  have o := set5_other X b q'.rv q'.lv q'.sv q'.dv (.int .i64 q'.de)
  have k0 := (o w.heap.size (by omega)).trans h.z
  have k1 := (o (w.heap.size + 1) (by omega)).trans h.p
  have kI : IsPo (set5 X b q'.rv q'.lv q'.sv q'.dv (.int .i64 q'.de)) q' := hI.but (noStr_zero hb) o
  have kB := below_set5G (w := w) (b := b) (by omega) h.b q'.rv q'.lv q'.sv q'.dv (.int .i64 q'.de)
  have o2 := set5_other (set5 X b q'.rv q'.lv q'.sv q'.dv (.int .i64 q'.de)) (w.heap.size + 1) q'.rv q'.lv q'.sv q'.dv (.int .i64 q'.de)
  refine ⟨k0, k1, set5_box hb, ⟨(o2 w.heap.size (by omega)).trans k0, set5_box k1, kI.but (noStr_po h.i k1) o2, below_set5G (by omega) kB _ _ _ _ _, ?_⟩, fun n v0 v1 v2 v3 v4 => parse_zero (below_set5G (Nat.le_refl _) kB v0 v1 v2 v3 v4)⟩
  rw [set5_size, set5_size]
  exact h.s
theorem nb_alloc {w X : World} {q q' : PV} (h : PS w q X) (hI : IsPo X q') : NB w q q' X.heap.size (X.alloc (.cells (poC q') 26)) := by
  have ba := below_alloc X (.cells (poC q') 26)
  have h2 := h.below ba
  have o2 := set5_other (X.alloc (.cells (poC q') 26)) (w.heap.size + 1) q'.rv q'.lv q'.sv q'.dv (.int .i64 q'.de)
  have hs := h.s
  refine ⟨h2.z, h2.p, heap_alloc_new X _, ⟨(o2 w.heap.size (by omega)).trans h2.z, set5_box h2.p, (hI.below ba).but (noStr_po h.i h2.p) o2, below_set5G (by omega) h2.b _ _ _ _ _, ?_⟩, fun n v0 v1 v2 v3 v4 => parse_zero (below_set5G (Nat.le_refl _) h2.b v0 v1 v2 v3 v4)⟩
  rw [set5_size]
  exact h2.s
def ansR (R : PO ⊕ Nat) : PO × Nat × Int := match R with
  | .inr n => ({}, n, 7)
  | .inl p => if checkP p = 0 then (p, 0, 0) else ({}, 0, checkP p)
theorem parse_ans (s : Bs) (h : ¬ 2000 < s.length) : parseP s = ansR (readK 0 {} (linesL s)) := by
  unfold parseP ansR
  rw [if_neg h]
  cases readK 0 {} (linesL s) <;> rfl
theorem ps_end {w W : World} {q : PV} (h : PS w q W) (hC : CapP q) (v0 v1 v2 v3 v4 : Value) : ParseD w (q.po, 0, 0) (.returned (.tuple #[poA q, .int .i64 ((0 : Nat) : Int), .int .i64 0])) (set5 W w.heap.size v0 v1 v2 v3 v4) :=
  ⟨q, rfl, rfl, h.i.but (noStr_zero h.z) (set5_other W _ v0 v1 v2 v3 v4), hC, below_set5G (Nat.le_refl _) h.b v0 v1 v2 v3 v4⟩
theorem cap_small {q : PV} (h : CapQ q) (hz : sizeP q.po ≤ 1000) (hs : ShortP 2000 q.po) : CapP q := by
  unfold sizeP PV.po at hz
  simp only [] at hz
  have h1 := attrs_len (q.rs.map RV.ru)
  rw [List.length_map] at h1
  refine ⟨⟨by omega, by omega, by omega, by omega, fun r hr => ?_, fun x hx => ?_, fun x hx => ?_, fun x hx => ?_⟩, h.l, h.c, h.d, h.a⟩
  · have h2 := attrs_each (q.rs.map RV.ru) r.ru (List.mem_map_of_mem hr)
    have h3 := hs.r r.ru (List.mem_map_of_mem hr)
    have h4 : r.nm.data.toList.length ≤ 2000 := h3.1
    rw [← size_list] at h4
    refine ⟨?_, by omega, fun x hx => ?_⟩
    · have : r.at_.length ≤ attrsN (q.rs.map RV.ru) := h2
      omega
    · have := h3.2 x hx
      omega
  · have := hs.l x hx
    omega
  · have := hs.s x hx
    omega
  · have := hs.d x hx
    omega
theorem lines_on (s : Bs) (f k : Nat) (hf : f ≤ k) (hk : k < s.length) (h : s[k] ≠ 10) : linesK (midW s f k) (s.drop k) = linesK (midW s f (k + 1)) (s.drop (k + 1)) := by
  rw [List.drop_eq_getElem_cons hk, linesK, if_neg h, midW_step s f k hf hk]
theorem lines_stop (s : Bs) (f k : Nat) (hf : f ≤ k) (hk : k < s.length) (h : s[k] = 10) : linesK (midW s f k) (s.drop k) = midW s f k :: linesK [] (s.drop (k + 1)) := by
  rw [List.drop_eq_getElem_cons hk, linesK, if_pos h]
theorem lines_last (s : Bs) (f : Nat) : linesK (midW s f s.length) (s.drop s.length) = [midW s f s.length] := by
  rw [List.drop_length, linesK]
end Go.Proofs.YthopnliaikkhbaaGreatDoor
