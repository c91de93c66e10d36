import Derived.Test.YthpepkfodcgbcaaWq16
import Derived.Test.YthpepkfodcgbcaaWq24
import Derived.Test.YthpepkfodcgbcaaWq14
/- The greatest Life of cells; cells that are read from a region, block by block: what the program's greatest answers. -/
set_option linter.unusedVariables false
set_option linter.unusedSimpArgs false
set_option maxRecDepth 40000
namespace Go.Proofs.Ythpepkfodcgbcaa
open Go.RowKit

/-- What Decode answers of a sector, whether it is a cell or none. -/
def DecO (w : World) (s : Bs) (e : Ending) (w' : World) : Prop := ∃ sa k E, e = .returned (.tuple #[clA (cellO s) (.slice sa (cellO s).data.length k), .int .i64 E]) ∧ Hid (IsC w' (cellO s) (.slice sa (cellO s).data.length k)) ∧ Hid (∀ j, (Value.slice sa (cellO s).data.length k).ownBlock = some j → w.heap.size ≤ j ∧ j < w'.heap.size) ∧ Hid (Below w.heap.size w w')
theorem pdec_o (bv : Value) (s : Bs) (w : World) (hY : IsY w bv s) (hl : s.length ≤ 1000000) : Calls Try.prog 61 #[bv] w (DecO w s) := (pdec_new bv s w hY hl).mono fun e w' h => by
  obtain ⟨⟨hb, ⟨hd, a, k, rfl⟩ | ⟨c, a, k, hd, rfl, hi⟩⟩, hn⟩ := h
  · have hc : cellO s = zeroC := cellO_none hd
    unfold DecO
    rw [hc]
    exact ⟨a, k, 8, rfl, hide ⟨by decide, by decide, by decide, by decide, .inl ⟨rfl, _, _, rfl⟩⟩, hide (hn _ _ _ rfl), hide hb⟩
  · have hc : cellO s = c := cellO_some hd
    unfold DecO
    rw [hc]
    exact ⟨a, k, 0, rfl, hide hi, hide (hn _ _ _ rfl), hide hb⟩
/-- Cells of the call's own that are being appended to; their bytes lie in new blocks too. -/
structure CutN (w : World) (vs : List (CL × Value)) (v : Value) (x : World) : Prop where
  o : x.ownsRow w.heap.size 90 5 v vs.length (cellsV vs)
  c : ∀ y ∈ vs, IsC x y.1 y.2
  s : ∀ k, v.ownBlock = some k → ∀ y ∈ vs, y.2.ownBlock ≠ some k
  l : ∀ y ∈ vs, ∀ k, y.2.ownBlock = some k → w.heap.size ≤ k ∧ k < x.heap.size
  b : Below w.heap.size w x
theorem CutN.below {w x y : World} {vs : List (CL × Value)} {v : Value} (h : CutN w vs v x) (hb : Below x.heap.size x y) : CutN w vs v y :=
  ⟨owns_keepC h.o hb, fun z hz => (h.c z hz).below hb, h.s, fun z hz k hk => ⟨(h.l z hz k hk).1, Nat.lt_of_lt_of_le (h.l z hz k hk).2 hb.size⟩, h.b.trans (hb.mono h.b.size)⟩
theorem CutN.isL {w x : World} {vs : List (CL × Value)} {v : Value} (h : CutN w vs v x) : IsL x v vs := owns_isL h.o h.c
theorem CutN.keep {w x y : World} {vs : List (CL × Value)} {v : Value} (h : CutN w vs v x) (hk : ∀ k, w.heap.size ≤ k → k < x.heap.size → y.heap[k]? = x.heap[k]?) : IsL y v vs := by
  refine owns_isL (B := w.heap.size) (n := vs.length) ⟨h.o.1, ?_⟩ fun z hz => ?_
  · rcases h.o.2 with h1 | ⟨g, cap, cur, h1, h2, h3, h4⟩
    · exact .inl h1
    · exact .inr ⟨g, cap, cur, h1, h2, (hk g h2 (Array.getElem?_eq_some_iff.1 h3).1).trans h3, h4⟩
  · have hh := h.c z hz
    exact ⟨hh.ep, hh.li, hh.part, hh.of, isY_keepC hh.d fun k hkk => hk k (h.l z hz k hkk).1 (h.l z hz k hkk).2⟩
theorem CutN.push {w x : World} {vs : List (CL × Value)} {v : Value} (h : CutN w vs v x) (hn : vs.length ≤ 1000000) (c : CL) (sa : Option Addr) (k cap : Nat) (hc : IsC x c (.slice sa k cap)) (hnew : ∀ j, (Value.slice sa k cap).ownBlock = some j → w.heap.size ≤ j ∧ j < x.heap.size ∧ v.ownBlock ≠ some j) :
    ∃ a' c' w', (Builtin.append_ #[69, 69] 69 #[v, .slice (some ⟨x.heap.size, 0, none⟩) 1 1]).run Try.prog (x.alloc (.cells (clC c (.slice sa k cap)) 90)) = .ok (.slice a' (vs.length + 1) c') w' ∧ CutN w (vs ++ [(c, .slice sa k cap)]) (.slice a' (vs.length + 1) c') w' ∧ (∀ j, j < x.heap.size → v.ownBlock ≠ some j → w'.heap[j]? = x.heap[j]?) ∧ ((Value.slice a' (vs.length + 1) c').ownBlock = v.ownBlock ∨ (Value.slice a' (vs.length + 1) c').ownBlock = some (x.heap.size + 1)) ∧ x.heap.size ≤ w'.heap.size := by
  obtain ⟨a', c', w', r2, o2, hg, hat⟩ := append_cell x w.heap.size vs.length v vs c sa k cap h.o hn h.b.size
  have hal := below_alloc x (.cells (clC c (.slice sa k cap)) 90)
  have h2 := h.below hal
  have hkeep : ∀ j, j < x.heap.size → v.ownBlock ≠ some j → w'.heap[j]? = x.heap[j]? := fun j hj hne => (hg.block j (Nat.lt_of_lt_of_le hj hal.size) (fun e => hne e.symm)).trans (hal.block j hj)
  have hbw : Below w.heap.size w w' := h.b.trans ⟨hg.os, hg.tape, hg.output, Nat.le_trans hal.size hg.size, fun j hj => hkeep j (Nat.lt_of_lt_of_le hj h.b.size) (fun e => by have := (h.o.lt j e).1; omega)⟩
  have hsz : x.heap.size ≤ w'.heap.size := Nat.le_trans hal.size hg.size
  refine ⟨a', c', w', r2, ⟨by rw [List.length_append]; exact o2, fun y hy => ?_, fun j hj y hy => ?_, fun y hy j hj => ?_, hbw⟩, hkeep, hat, hsz⟩
  · rcases List.mem_append.1 hy with hy | hy
    · have hh := h.c y hy
      exact ⟨hh.ep, hh.li, hh.part, hh.of, isY_keepC hh.d fun j hj => hkeep j (h.l y hy j hj).2 (fun e => h.s j e y hy hj)⟩
    · obtain rfl := List.mem_singleton.1 hy
      exact ⟨hc.ep, hc.li, hc.part, hc.of, isY_keepC hc.d fun j hj => hkeep j (hnew j hj).2.1 (hnew j hj).2.2⟩
  · rcases hat with e | e
    · have hk2 := e.symm.trans hj
      rcases List.mem_append.1 hy with hy | hy
      · exact h.s j hk2 y hy
      · obtain rfl := List.mem_singleton.1 hy
        intro e2
        exact (hnew j e2).2.2 hk2
    · rw [e] at hj
      cases hj
      rcases List.mem_append.1 hy with hy | hy
      · intro e2
        have := (h.l y hy _ e2).2
        omega
      · obtain rfl := List.mem_singleton.1 hy
        intro e2
        have := (hnew _ e2).2.1
        omega
  · rcases List.mem_append.1 hy with hy | hy
    · exact ⟨(h.l y hy j hj).1, Nat.lt_of_lt_of_le (h.l y hy j hj).2 hsz⟩
    · obtain rfl := List.mem_singleton.1 hy
      exact ⟨(hnew j hj).1, Nat.lt_of_lt_of_le (hnew j hj).2.1 hsz⟩
/-- The greatest Life. -/
def lifeC (l : List CL) : Nat := l.foldl (fun m c => max m c.li) 0
theorem lifeC_step (l : List (CL × Value)) (i : Nat) (y : CL × Value) (h : l[i]? = some y) : lifeC ((l.take (i + 1)).map Prod.fst) = max (lifeC ((l.take i).map Prod.fst)) y.1.li := by
  obtain ⟨hi, rfl⟩ := List.getElem?_eq_some_iff.1 h
  rw [List.take_succ_eq_append_getElem hi]
  unfold lifeC
  rw [List.map_append, List.foldl_append]
  rfl
theorem lifeC_lt (l : List CL) (h : ∀ c ∈ l, c.li < 18446744073709551616) : lifeC l < 18446744073709551616 := by
  unfold lifeC
  suffices ∀ (l : List CL) (a : Nat), a < 18446744073709551616 → (∀ c ∈ l, c.li < 18446744073709551616) → l.foldl (fun m c => max m c.li) a < 18446744073709551616 from this l 0 (by decide) h
  intro l
  induction l with
  | nil => intro a ha _; exact ha
  | cons x l ih =>
    intro a ha hx
    rw [List.foldl_cons]
    exact ih _ (Nat.max_lt.2 ⟨ha, hx x (List.mem_cons_self ..)⟩) fun c hc => hx c (List.mem_cons_of_mem _ hc)
set_option maxHeartbeats 8000000 in
theorem pgreat_any (lv : Value) (l : List (CL × Value)) (w : World) (hL : IsL w lv l) (hl : l.length ≤ 1000000) : Calls Try.prog 40 #[lv] w fun e w' => e = .returned (.int .u64 ((lifeC (l.map Prod.fst) : Nat) : Int)) ∧ Below w.heap.size w w' := by
  obtain ⟨la, lc, rfl⟩ := hL.form
  have HA2 : Hid (∀ i y, l[i]? = some y → ∃ b o, la = some ⟨b, o, none⟩ ∧ ∃ ya yc, ∀ x, Below w.heap.size w x → (x.cell? ⟨b, o + i * 5, none⟩ = some (.int .u64 (y.1.ep : Int)) ∧ x.cell? ⟨b, o + i * 5 + 1, none⟩ = some (.int .u64 (y.1.li : Int)) ∧ x.cell? ⟨b, o + i * 5 + 2, none⟩ = some (.int .i64 y.1.part) ∧ x.cell? ⟨b, o + i * 5 + 3, none⟩ = some (.int .i64 y.1.of) ∧ x.cell? ⟨b, o + i * 5 + 4, none⟩ = some (.slice ya y.1.data.length yc))) := hide (fun i y hy => by
    obtain ⟨hi, rfl⟩ := List.getElem?_eq_some_iff.1 hy
    obtain ⟨b, o, e, hc, hi2⟩ := hL.at_ i hi
    obtain ⟨ya, yc, hyv⟩ := hi2.d.form
    refine ⟨b, o, e, ya, yc, fun x hb => ?_⟩
    rw [← hyv]
    exact hc x hb)
  have HLI : Hid (∀ (i : Nat) (y : CL × Value), l[i]? = some y → y.1.li < 18446744073709551616) := hide (fun i y hy => (hL.2 y (List.mem_of_getElem? hy)).li)
  have HX : Hid (∀ i, i < l.length → ∃ y, l[i]? = some y) := hide (fun i hi => ⟨_, List.getElem?_eq_getElem hi⟩)
  have HST := hide (fun i y h => lifeC_step l i y h)
  have HEND : Hid (lifeC ((l.take l.length).map Prod.fst) = lifeC (l.map Prod.fst)) := hide (by rw [List.take_length])
  have HLT : Hid (∀ i, lifeC ((l.take i).map Prod.fst) < 18446744073709551616) := hide (fun i => lifeC_lt _ fun c hc => by
    obtain ⟨y, hy, rfl⟩ := List.mem_map.1 hc
    exact (hL.2 y (List.mem_of_mem_take hy)).li)
  have HB0 := hide (Below.refl w.heap.size w)
  have HM0 : Hid (lifeC ((l.take 0).map Prod.fst) = 0) := hide rfl
  clear hL
  generalize hLL : l.length = L at *
  have HLL := hide hLL
  clear hLL
  generalize lifeC (l.map Prod.fst) = R at *
  go_enter Try.func40, Try.ntmps40
  go_wp2
  go_loopw [3, 8] (fun vo vi wr => ∃ (i M : Nat), vi = .int .i64 (i : Int) ∧ i ≤ L ∧ vo = .int .u64 (M : Int) ∧ Hid (M = lifeC ((l.take i).map Prod.fst)) ∧ Hid (Below w.heap.size w wr)) (fun _ vi _ => L - (intOf vi).toNat)
  case atStart => exact ⟨0, 0, rfl, Nat.zero_le _, rfl, hide HM0.out.symm, HB0⟩
  case round =>
    clear HB0 HM0
    obtain ⟨i, M, rfl, hi, rfl, HM, HB⟩ := hrel
    by_cases hlt : i < L
    · have hlt2 : (i : Int) < L := by omega
      obtain ⟨y, hy⟩ := HX.out i hlt
      obtain ⟨b, o, rfl, ya, yc, hc⟩ := HA2.out i y hy
      obtain ⟨k0, k1, k2, k3, k4⟩ := hc wr HB.out
      have hst := HST.out i y hy
      rw [← HM.out] at hst
      have hli := HLI.out i y hy
      have hM : M < 18446744073709551616 := by rw [HM.out]; exact HLT.out i
      obtain ⟨yp, yv⟩ := y
      obtain ⟨ep, li, pp, oo, dd⟩ := yp
      simp only [] at *
      have hal := below_alloc wr (.cells #[.int .u64 (ep : Int), .int .u64 (li : Int), .int .i64 pp, .int .i64 oo, .slice ya dd.length yc] 90)
      have HB2 := hide (HB.out.trans (hal.mono HB.out.size))
      have HST2 := hide hst
      clear hc hy HB hal HM HA2 HX HLI HST HEND HLT hst
      generalize dd.length = yl at *
      have hmx : max (M : Int) (li : Int) = ((max M li : Nat) : Int) := by omega
      go_wp2
      go_roundw
      case rel => exact ⟨i + 1, _, by go_num, by omega, rfl, hide HST2.out.symm, HB2⟩
      case measure => simp [intOf]; omega
    · have hlt2 : ¬ (i : Int) < L := by omega
      obtain rfl : i = L := by omega
      have hM := HM.out
      rw [HEND.out] at hM
      subst hM
      clear HEND HM HA2 HX HLI HST HLT
      go_wp2
      go_ret
      exact ⟨rfl, HB.out⟩
end Go.Proofs.Ythpepkfodcgbcaa
