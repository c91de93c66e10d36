import Derived.Test.YthpepkfodcgbcaaWq09
import Derived.BigQuiet
/- What the document's record answers. -/
set_option linter.unusedVariables false
set_option linter.unusedSimpArgs false
set_option maxRecDepth 40000
namespace Go.Proofs.Ythpepkfodcgbcaa
open Go.RowKit

theorem cells_snoc : ∀ {a : List Bs} {cs : List CL} (s : Bs), cellsL a = some cs → cellsL (a ++ [s]) = (decC s).map fun c => cs ++ [c]
  | [], cs, s, h => by
    cases h
    show cellsL [s] = _
    unfold cellsL
    cases decC s <;> rfl
  | x :: a, cs, s, h => by
    unfold cellsL at h
    split at h
    · cases h
    · next c hc =>
      split at h
      · cases h
      · next ds hd =>
        cases h
        show cellsL (x :: (a ++ [s])) = _
        unfold cellsL
        rw [hc, cells_snoc s hd]
        cases decC s <;> rfl
theorem cells_none : ∀ {a : List Bs} (b : List Bs), cellsL a = none → cellsL (a ++ b) = none
  | [], b, h => by cases h
  | x :: a, b, h => by
    unfold cellsL at h
    show cellsL (x :: (a ++ b)) = none
    unfold cellsL
    cases hx : decC x with
    | none => rfl
    | some c =>
      rw [hx] at h
      simp only at h ⊢
      cases hd : cellsL a with
      | none => rw [cells_none b hd]
      | some cs => rw [hd] at h; cases h
theorem cells_step {m : List Bs} {i : Nat} {cs : List CL} {s : Bs} (h : cellsL (m.take i) = some cs) (hs : m[i]? = some s) : (∀ c, decC s = some c → cellsL (m.take (i + 1)) = some (cs ++ [c])) ∧ (decC s = none → ∀ k, i < k → cellsL (m.take k) = none) := by
  obtain ⟨hi, rfl⟩ := List.getElem?_eq_some_iff.1 hs
  have e : m.take (i + 1) = m.take i ++ [m[i]] := List.take_succ_eq_append_getElem hi
  refine ⟨fun c hc => ?_, fun hc k hk => ?_⟩
  · rw [e, cells_snoc _ h, hc]
    rfl
  · have e2 : m.take k = m.take (i + 1) ++ (m.drop (i + 1)).take (k - (i + 1)) := by
      rw [← List.take_add, show i + 1 + (k - (i + 1)) = k by omega]
    rw [e2]
    apply cells_none
    rw [e, cells_snoc _ h, hc]
    rfl
/-- What record answers of the record r that begins there. -/
def RecA (w : World) (r : Option (Bs × Nat × Nat)) (e : Ending) (w' : World) : Prop := ∃ (b : Bs) (li n : Nat) (a : Option Addr) (k : Nat), e = .returned (.tuple #[.slice a b.length k, .int .u64 (li : Int), .int .i64 (n : Int)]) ∧ Hid ((r = none ∧ n = 0) ∨ (r = some (b, li, n) ∧ 0 < n)) ∧ Hid (IsY w' (.slice a b.length k) b) ∧ Hid (∀ j, (Value.slice a b.length k).ownBlock = some j → w.heap.size ≤ j ∧ j < w'.heap.size) ∧ Hid (Below w.heap.size w w')
theorem recA_none {w x : World} {r : Option (Bs × Nat × Nat)} (h : r = none) (hb : Below w.heap.size w x) : RecA w r (.returned (.tuple #[.slice none 0 0, .int .u64 0, .int .i64 0])) x := ⟨[], 0, 0, none, 0, rfl, hide (.inl ⟨h, rfl⟩), hide (.inl ⟨rfl, _, _, rfl⟩), hide (fun j hj => by cases hj), hide hb⟩
theorem rec_head {ep : Nat} {l : List Bs} {s : Bs} (h : l[0]? = some s) : recL ep l = match decC s with
    | none => none
    | some c => if c.ep = ep ∧ c.part = 0 ∧ c.of.toNat ≤ l.length then
        match cellsL (l.take c.of.toNat) with
        | none => none
        | some cs => match joinC cs with
          | none => none
          | some b => some (b, c.li, c.of.toNat)
      else none := by
  cases l with
  | nil => cases h
  | cons x r =>
    cases h
    rfl
/-- What stands while a record's cells are gathered: the first cell's box, and the cells. -/
structure RdS (w : World) (bx : Nat) (c : CL) (dv : Value) (vs : List (CL × Value)) (v : Value) (x : World) : Prop where
  box : x.heap[bx]? = some (.cells (clC c dv) 90 (0, 0))
  s : CelS (bx + 1) x vs v
  b : Below w.heap.size w x
  lt : w.heap.size ≤ bx ∧ bx < x.heap.size
theorem RdS.below {w x y : World} {bx : Nat} {c : CL} {dv v : Value} {vs : List (CL × Value)} (h : RdS w bx c dv vs v x) (hb : Below x.heap.size x y) : RdS w bx c dv vs v y :=
  ⟨(hb.block bx h.lt.2).trans h.box, h.s.below hb, h.b.trans (hb.mono h.b.size), h.lt.1, Nat.lt_of_lt_of_le h.lt.2 hb.size⟩
theorem RdS.cells {w x : World} {bx : Nat} {c : CL} {dv v : Value} {vs : List (CL × Value)} (h : RdS w bx c dv vs v x) : x.cell? ⟨bx, 0, none⟩ = some (.int .u64 (c.ep : Int)) ∧ x.cell? ⟨bx, 1, none⟩ = some (.int .u64 (c.li : Int)) ∧ x.cell? ⟨bx, 2, none⟩ = some (.int .i64 c.part) ∧ x.cell? ⟨bx, 3, none⟩ = some (.int .i64 c.of) ∧ x.cell? ⟨bx, 4, none⟩ = some dv := cells5 h.box
theorem RdS.start {w x : World} {c : CL} {dv : Value} (hb : Below w.heap.size w x) :
    RdS w x.heap.size c dv [] (.slice (some ⟨x.heap.size + 1, 0, none⟩) 0 0) ((x.alloc (.cells (clC c dv) 90)).alloc (.cells #[] 90)) := by
  have h1 := alloc_new x (.cells (clC c dv) 90)
  have h2 := below_alloc x (.cells (clC c dv) 90)
  have h3 : (x.alloc (.cells (clC c dv) 90)).heap.size = x.heap.size + 1 := by simp
  generalize x.alloc (.cells (clC c dv) 90) = X at *
  have hal := below_alloc X (.cells #[] 90)
  have ho := own_noL X (x.heap.size + 1) (by omega)
  rw [h3] at ho
  exact ⟨(hal.block _ (by omega)).trans h1, ⟨ho, fun y hy => (by cases hy), fun y hy => by cases hy⟩, (hb.trans (h2.mono hb.size)).trans (hal.mono (hb.trans (h2.mono hb.size)).size), hb.size, by have := hal.size; omega⟩
/-- A cell more: decoded into a box, and appended. -/
theorem RdS.step {w x y : World} {bx : Nat} {c d : CL} {dv v : Value} {vs : List (CL × Value)} (h : RdS w bx c dv vs v x) (hb : Below x.heap.size x y) {a : Option Addr} {k cap : Nat} (hc : IsC y d (.slice a k cap)) (hq : ∀ j, (Value.slice a k cap).ownBlock = some j → x.heap.size ≤ j ∧ j < y.heap.size) (hn : vs.length ≤ 100000) :
    ∃ a' c' w', (Builtin.append_ #[69, 69] 69 #[v, .slice (some ⟨y.heap.size + 1, 0, none⟩) 1 1]).run Try.prog ((y.alloc (.cells (clC d (.slice a k cap)) 90)).alloc (.cells (clC d (.slice a k cap)) 90)) = .ok (.slice a' (vs.length + 1) c') w' ∧ RdS w bx c dv (vs ++ [(d, .slice a k cap)]) (.slice a' (vs.length + 1) c') w' := by
  have h2 := below_alloc y (.cells (clC d (.slice a k cap)) 90)
  have h3 : (y.alloc (.cells (clC d (.slice a k cap)) 90)).heap.size = y.heap.size + 1 := by simp
  generalize y.alloc (.cells (clC d (.slice a k cap)) 90) = X at *
  have hX := (h.below hb).below h2
  have hq2 : ∀ j, (Value.slice a k cap).ownBlock = some j → bx + 1 ≤ j ∧ j < X.heap.size ∧ v.ownBlock ≠ some j := by
    intro j hj
    obtain ⟨q1, q2⟩ := hq j hj
    have := h.lt.2
    exact ⟨by omega, by omega, fun e => by have := (h.s.o.lt j e).2; omega⟩
  obtain ⟨a', c', w', r1, r2, r3, r4⟩ := hX.s.step (c := d) (hc.below h2) hq2 (by omega) (by have := hX.lt.2; omega)
  rw [h3] at r1
  exact ⟨a', c', w', r1, ⟨(r4 bx hX.lt.2 (fun e => by have := (hX.s.o.lt bx e).1; omega)).trans hX.box, r2, hX.b.trans ⟨r3.os, r3.tape, r3.output, r3.size, fun j hj => r3.block j (by have := hX.lt.1; omega)⟩, hX.lt.1, Nat.lt_of_lt_of_le hX.lt.2 r3.size⟩⟩
set_option maxHeartbeats 8000000 in
theorem rrecord_any (a : Option Addr) (n cap : Nat) (l : List Bs) (p ep : Nat) (w : World) (hW : IsW w (.slice a n cap) l) (hn : n = l.length) (hl : l.length ≤ 1000) (h64 : ∀ x ∈ l, x.length ≤ 1000) (he : ep < 18446744073709551616) (hp : p ≤ 1000000) :
    Calls Try.prog 44 #[.slice a n cap, .int .i64 (p : Int), .int .u64 (ep : Int)] w fun e w' => RecA w (recL ep (l.drop p)) e w' := by
  subst hn
  by_cases hlt : p < l.length
  · have hlt2 : (p : Int) < l.length := by omega
    obtain ⟨sb, so, rfl, hcs⟩ := hW.at_ p l[p] (List.getElem?_eq_getElem hlt)
    have hs64 := h64 _ (List.getElem_mem hlt)
    have hrh := rec_head (ep := ep) (l := l.drop p) (s := l[p]) (by rw [List.getElem?_drop]; exact List.getElem?_eq_getElem hlt)
    have HAT : Hid (∀ i, p + i < l.length → ∃ s, (l.drop p)[i]? = some s ∧ s.length ≤ 1000 ∧ ∀ x, Below w.heap.size w x → x.cell? ⟨sb, so + (p + i), none⟩ = some (.string ⟨s.toArray⟩)) := hide (fun i hi => by
      obtain ⟨b', o', e', hc'⟩ := hW.at_ (p + i) l[p + i] (List.getElem?_eq_getElem hi)
      injection e' with e'
      injection e' with e1 e2
      subst e1 e2
      exact ⟨l[p + i], by rw [List.getElem?_drop]; exact List.getElem?_eq_getElem hi, h64 _ (List.getElem_mem hi), hc'⟩)
    have hcell := hcs w (Below.refl _ _)
    generalize l[p] = s at *
    have hdl : (l.drop p).length = l.length - p := List.length_drop
    rw [hdl] at hrh
    clear h64 hW hcs
    have HR := hide hrh
    clear hrh hdl
    generalize recL ep (l.drop p) = RES at *
    generalize hM : l.drop p = m at *
    clear hM
    generalize l.length = n at *
    obtain ⟨c0, W0, hr0, hY0, hb0⟩ := conv_textY w s (by omega)
    have HDEC := hide (rdecA _ s W0 hY0 (by omega))
    have HB0 := hide hb0
    clear hY0 hb0
    go_enter Try.func44, Try.ntmps44
    go_wp2_with fail
    refine HDEC.out.mono ?_
    rintro e w1 ⟨c, ca, ck, E, rfl, HE, HC, HN, b1⟩
    clear HDEC hr0
    have HB1 := hide (HB0.out.trans (b1.out.mono HB0.out.size))
    clear HB0 b1
    have hHE := HE.out
    have HXB := hide (HB1.out.trans ((below_alloc w1 (.cells (clC c (.slice ca c.data.length ck)) 90)).mono HB1.out.size))
    rcases hHE with ⟨rfl, hE⟩ | ⟨rfl, hE⟩
    · have HN0 : Hid (RES = none) := hide (by rw [HR.out, hE])
      clear HE hE HR
      go_wp2
      refine bodyPost_ret (v := .tuple #[.slice none 0 0, .int .u64 0, .int .i64 0]) ?_ rfl (recA_none HN0.out HXB.out)
      simp [results, Try.results44, go_sem]
    · obtain ⟨d1, d2, d3⟩ := dec_li hE
      have HR2 := HR.out
      rw [hE] at HR2
      simp only at HR2
      by_cases c1 : c.ep = ep
      · by_cases c2 : c.part = 0
        · by_cases c3 : c.of.toNat ≤ n - p
          · obtain ⟨q, hq⟩ : ∃ q : Nat, c.of = (q : Int) := ⟨c.of.toNat, by have := d3.1; have := d3.2.1; omega⟩
            have hq0 : 0 < q := by have := d3.1; have := d3.2.1; omega
            rw [if_pos ⟨c1, c2, c3⟩] at HR2
            rw [hq, Int.toNat_natCast] at HR2 c3
            have e1 : (((c.ep : Nat) : Int) != (ep : Int)) = false := by rw [c1]; simp
            have e2 : (c.part != 0) = false := by rw [c2]; rfl
            have e3 : (q : Int) ≤ (n : Int) - p := by omega
            have HRES := hide HR2
            have hS0 := RdS.start (c := c) (dv := .slice ca c.data.length ck) HB1.out
            have HS0 := hide hS0
            have HIC := hide (HC.out.below (below_alloc w1 (.cells (clC c (.slice ca c.data.length ck)) 90)))
            obtain ⟨cep, cli, cpart, cof, cdata⟩ := c
            simp only at hq e1 e2 HS0 c1 c2 d1 d2
            subst hq c2 c1
            have HCL0 : Hid (cellsL (m.take 0) = some (([] : List (CL × Value)).map Prod.fst)) := hide rfl
            clear HE hE HR HR2 hS0 HC HN HXB
            generalize cdata.length = cl at *
            generalize hbx : w1.heap.size = bx at *
            go_wp2
            go_loopw [11, 12] (fun va vi wr => ∃ (i : Nat) (vs : List (CL × Value)) (a1 : Option Addr) (k1 : Nat), vi = .int .i64 (i : Int) ∧ i ≤ q ∧ va = .slice a1 i k1 ∧ Hid (vs.length = i) ∧ Hid (cellsL (m.take i) = some (vs.map Prod.fst)) ∧ Hid (∀ y ∈ vs, y.1.data.length ≤ 1000) ∧ Hid (RdS w bx ⟨cep, cli, 0, (q : Int), cdata⟩ (.slice ca cl ck) vs (.slice a1 i k1) wr)) (fun _ vi _ => q - (intOf vi).toNat)
            case atStart => exact ⟨0, [], some ⟨bx + 1, 0, none⟩, 0, rfl, Nat.zero_le _, rfl, hide rfl, HCL0, hide (fun y hy => by cases hy), HS0⟩
            case round =>
              obtain ⟨i, vs, a1, k1, rfl, hi, rfl, HLEN, HCL, HDL, HS⟩ := hrel
              obtain ⟨x0, x1, x2, x3, x4⟩ := HS.out.cells
              simp only at x0 x1 x2 x3 x4
              by_cases hiq : i < q
              · have hiq2 : (i : Int) < q := by omega
                obtain ⟨s', hm', hs', hcell'⟩ := HAT.out i (by omega)
                have hcw := hcell' wr HS.out.b
                have hpi : (p : Int) + i < n := by omega
                obtain ⟨c5, W5, hr5, hY5, hb5⟩ := conv_textY wr s' (by omega)
                have HDEC5 := hide (rdecA _ s' W5 hY5 (by omega))
                have HB5 := hide hb5
                have HST := hide (cells_step HCL.out hm')
                clear hY5 hb5 hcell' hm' hiq
                go_wp2_with fail
                refine HDEC5.out.mono ?_
                rintro e w5 ⟨d, da, dk, E, rfl, HE5, HC5, HN5, b5⟩
                clear HDEC5 hr5
                have hHE5 := HE5.out
                have HB6 := hide (HB5.out.trans (b5.out.mono HB5.out.size))
                rcases hHE5 with ⟨rfl, hE⟩ | ⟨rfl, hE⟩
                · have HN0 : Hid (RES = none) := hide (by rw [HRES.out, HST.out.2 hE q (by omega)])
                  have HXB := hide (((HS.out.below HB6.out).below (below_alloc w5 (.cells (clC d (.slice da d.data.length dk)) 90))).b)
                  clear HE5 hE HST HCL HLEN HDL HRES HS HB6 HB5 b5 HC5 HN5 x0 x1 x2 x3 x4 hcw
                  generalize d.data.length = dl at *
                  go_wp2
                  refine bodyPost_ret (v := .tuple #[.slice none 0 0, .int .u64 0, .int .i64 0]) ?_ rfl (recA_none HN0.out HXB.out)
                  simp [results, Try.results44, go_sem]
                · have hst := HS.out.step HB6.out HC5.out (fun j hj => ⟨by have := HB5.out.size; have := (HN5.out j hj).1; omega, (HN5.out j hj).2⟩) (by have := HLEN.out; omega)
                  obtain ⟨a', c', w', hr', hS'⟩ := hst
                  rw [HLEN.out] at hr' hS'
                  have HR' := hide hr'
                  have HS' := hide hS'
                  have HCL' : Hid (cellsL (m.take (i + 1)) = some ((vs ++ [(d, Value.slice da d.data.length dk)]).map Prod.fst)) := hide (by
                    rw [HST.out.1 d hE, List.map_append]
                    rfl)
                  have hd39 := (dec_li hE).2.2.2.2.2
                  have HDL' : Hid (∀ y ∈ vs ++ [(d, Value.slice da d.data.length dk)], y.1.data.length ≤ 1000) := hide (fun y hy => by
                    rcases List.mem_append.1 hy with hy | hy
                    · exact HDL.out y hy
                    · rw [List.mem_singleton.1 hy]
                      exact Nat.le_trans hd39 (by decide))
                  have HLEN' : Hid ((vs ++ [(d, Value.slice da d.data.length dk)]).length = i + 1) := hide (by rw [List.length_append, HLEN.out]; rfl)
                  clear hr' hS' HE5 hE HST HCL HLEN HDL HS HB6 HB5 b5 HC5 HN5 x0 x1 x2 x3 x4 hcw hd39
                  generalize hV : vs ++ [(d, Value.slice da d.data.length dk)] = vs' at *
                  clear hV
                  generalize d.data.length = dl at *
                  go_wp2_with (at_builtin; refine wpList_append_run rfl _ _ 69 rfl _ _ _ _ rfl rfl HR'.out ?_)
                  go_round
                  case rel => exact ⟨i + 1, vs', a', c', by go_num, by omega, rfl, HLEN', HCL', HDL', HS'⟩
                  case measure => simp [intOf]; omega
              · have hiq2 : ¬ (i : Int) < q := by omega
                obtain rfl : i = q := by omega
                have HRJ : Hid (RES = match joinC (vs.map Prod.fst) with | none => none | some b => some (b, cli, i)) := hide (by rw [HRES.out, HCL.out])
                have HJ : Hid (Calls Try.prog 64 #[.slice a1 i k1] wr fun e w' => (∃ (b : Bs) (ja : Option Addr) (jk : Nat) (ok : Bool), e = .returned (.tuple #[.slice ja b.length jk, .bool ok]) ∧ Hid ((ok = false ∧ joinC (vs.map Prod.fst) = none) ∨ (ok = true ∧ joinC (vs.map Prod.fst) = some b ∧ w'.ownsRow wr.heap.size 5 1 (.slice ja b.length jk) b.length (Lib.byteCells b))) ∧ Hid (Below wr.heap.size wr w'))) := hide ((rjoin_any _ vs wr HS.out.s.isL (by have := HLEN.out; omega) HDL.out).mono fun e w' hh => by
                  obtain ⟨hb, ⟨h1, rfl⟩ | ⟨b, v, h1, rfl, ho⟩⟩ := hh
                  · exact ⟨[], none, 0, false, rfl, hide (.inl ⟨rfl, h1⟩), hide hb⟩
                  · obtain ⟨ja, jk, rfl⟩ := owns_formG ho
                    exact ⟨b, ja, jk, true, rfl, hide (.inr ⟨rfl, h1, ho⟩), hide hb⟩)
                clear HDL HCL HLEN
                go_wp2_with fail
                refine HJ.out.mono ?_
                rintro e w5 ⟨b, ja, jk, ok, rfl, HOK, b5⟩
                have S5 := HS.out.below b5.out
                have hok := HOK.out
                rcases hok with ⟨rfl, hj⟩ | ⟨rfl, hj, ho⟩
                · have HN0 : Hid (RES = none) := hide (by rw [HRJ.out, hj])
                  have HXB := hide S5.b
                  clear HOK hj S5 b5 HS HJ HRJ HRES x0 x1 x2 x3 x4
                  go_wp2
                  refine bodyPost_ret (v := .tuple #[.slice none 0 0, .int .u64 0, .int .i64 0]) ?_ rfl (recA_none HN0.out HXB.out)
                  simp [results, Try.results44, go_sem]
                · have HXB := hide S5.b
                  have HFIN : Hid (∀ nq : Nat, RecA w RES (.returned (.tuple #[.slice ja b.length jk, .int .u64 (cli : Int), .int .i64 (i : Int)])) (w5.drewN nq)) := hide (fun nq => ⟨b, cli, i, ja, jk, rfl, hide (.inr ⟨by rw [HRJ.out, hj], hq0⟩), hide (owns_isYB (w := w5.drewN nq) (show (w5.drewN nq).ownsRow _ _ _ _ _ _ from ho)), hide (fun j hj => ⟨by have := (ho.lt j hj).1; have := HS.out.b.size; omega, (ho.lt j hj).2⟩), hide (below_drewN HXB.out nq)⟩)
                  obtain ⟨x0, x1, x2, x3, x4⟩ := S5.cells
                  simp only at x1 x3
                  clear HOK hj S5 b5 HS HJ HRJ HRES x0 x2 x4 ho HXB
                  go_wp2
                  go_quiet (fail)
                  go_wp2
                  refine bodyPost_ret (v := .tuple #[.slice ja b.length jk, .int .u64 (cli : Int), .int .i64 (i : Int)]) ?_ rfl (HFIN.out _)
                  simp [results, Try.results44, go_sem]
          · have HN0 : Hid (RES = none) := hide (by rw [HR2, if_neg (fun h => c3 h.2.2)])
            have e1 : (((c.ep : Nat) : Int) != (ep : Int)) = false := by rw [c1]; simp
            have e2 : (c.part != 0) = false := by rw [c2]; rfl
            have e3 : ¬ c.of ≤ (n : Int) - p := by have := d3.1; have := d3.2.1; omega
            clear HE hE HR HR2 c1 c2 c3 d1 d2 d3
            go_wp2
            refine bodyPost_ret (v := .tuple #[.slice none 0 0, .int .u64 0, .int .i64 0]) ?_ rfl (recA_none HN0.out HXB.out)
            simp [results, Try.results44, go_sem]
        · have HN0 : Hid (RES = none) := hide (by rw [HR2, if_neg (fun h => c2 h.2.1)])
          have e1 : (((c.ep : Nat) : Int) != (ep : Int)) = false := by rw [c1]; simp
          have e2 : (c.part != 0) = true := by simpa using c2
          clear HE hE HR HR2 c1 c2 d1 d2 d3
          go_wp2
          refine bodyPost_ret (v := .tuple #[.slice none 0 0, .int .u64 0, .int .i64 0]) ?_ rfl (recA_none HN0.out HXB.out)
          simp [results, Try.results44, go_sem]
      · have HN0 : Hid (RES = none) := hide (by rw [HR2, if_neg (fun h => c1 h.1)])
        have e1 : (((c.ep : Nat) : Int) != (ep : Int)) = true := by
          rw [bne_iff_ne]
          omega
        clear HE hE HR HR2 c1 d1 d2 d3
        go_wp2
        refine bodyPost_ret (v := .tuple #[.slice none 0 0, .int .u64 0, .int .i64 0]) ?_ rfl (recA_none HN0.out HXB.out)
        simp [results, Try.results44, go_sem]
  · have hlt2 : ¬ (p : Int) < l.length := by omega
    have HD : Hid (recL ep (l.drop p) = none) := hide (by rw [List.drop_of_length_le (by omega)]; rfl)
    clear hW h64
    generalize l.length = n at *
    have h1 : (n : Int) ≤ p := by omega
    clear hlt
    go_enter Try.func44, Try.ntmps44
    go_wp2
    refine bodyPost_ret (v := .tuple #[.slice none 0 0, .int .u64 0, .int .i64 0]) ?_ rfl (recA_none HD.out (Below.refl _ _))
    simp [results, Try.results44, go_sem]
end Go.Proofs.Ythpepkfodcgbcaa
/- What the document's Room, Reset and Same answer. -/
set_option linter.unusedVariables false
set_option linter.unusedSimpArgs false
set_option maxRecDepth 40000
namespace Go.Proofs.Ythpepkfodcgbcaa
open Go.RowKit

/-- A log as it is handed on. -/
structure LgV where
  m : LM
  rv : Value
abbrev lgC (g : LgV) : Array Value := #[.int .i64 (g.m.first : Int), .int .i64 (g.m.size : Int), .int .u64 (g.m.ep : Int), .int .u64 (g.m.li : Int), .int .i64 (g.m.end_ : Int), g.rv, .bool g.m.broken]
abbrev lgA (g : LgV) : Value := .agg (lgC g)
abbrev IsG (P : Nat → Prop) (w : World) (g : LgV) : Prop := IsRs P w g.rv g.m.recs
/-- A log whose numbers are not too great. -/
structure OkG (m : LM) : Prop where
  first : m.first ≤ 10000
  size : m.size ≤ 10000
  le : m.end_ ≤ m.size * 4
  ep : m.ep < 18446744073709551616
  li : m.li < 18446744073709551616
def LogR (P : Nat → Prop) (w : World) (m' : LM) (E : Int) (e : Ending) (w' : World) : Prop := ∃ g' : LgV, e = .returned (.tuple #[lgA g', .int .i64 E]) ∧ g'.m = m' ∧ IsG P w' g' ∧ Below w.heap.size w w'
set_option maxHeartbeats 2000000 in
theorem rroom_any (g : LgV) (w : World) (hO : OkG g.m) : Calls Try.prog 27 #[lgA g] w fun e w' => e = .returned (.int .i64 (roomW g.m : Int)) ∧ Below w.heap.size w w' := by
  have hb := below_alloc w (.cells (lgC g) 40)
  obtain ⟨⟨first, size, ep, li, en, recs, broken⟩, rv⟩ := g
  obtain ⟨h1, h2, h3, _, _⟩ := hO
  simp only at h1 h2 h3 hb
  cases broken
  · have HR : Hid (roomW ⟨first, size, ep, li, en, recs, false⟩ = min ((size * 4 - en) * 39) 6000) := hide rfl
    generalize roomW ⟨first, size, ep, li, en, recs, false⟩ = R at *
    have hc : (((size : Int) * 4 - en) * 39 ≤ 6000 ∧ (R : Int) = ((size : Int) * 4 - en) * 39) ∨ (¬ ((size : Int) * 4 - en) * 39 ≤ 6000 ∧ (R : Int) = 6000) := by
      have := HR.out
      omega
    clear HR
    go_enter Try.func27, Try.ntmps27
    go_wp2
    all_goals
      go_ret
      refine ⟨?_, hb⟩
      first
        | exact congrArg (fun z : Int => Ending.returned (Value.int IntKind.i64 z)) (show (6000 : Int) = R by omega)
        | exact congrArg (fun z : Int => Ending.returned (Value.int IntKind.i64 z)) (show ((size : Int) * 4 - en) * 39 = (R : Int) by omega)
        | exact congrArg (fun z : Int => Ending.returned (Value.int IntKind.i64 z)) (show min (((size : Int) * 4 - en) * 39) 6000 = (R : Int) by omega)
  · go_enter Try.func27, Try.ntmps27
    go_wp2
    go_ret
    exact ⟨rfl, hb⟩
theorem below_allocs {w : World} (cs ds : Array Value) (T U : TypeId) : Below w.heap.size w ((w.alloc (.cells cs T)).alloc (.cells ds U)) := (below_alloc w _).trans ((below_alloc (w.alloc (.cells cs T)) _).mono (by simp))
set_option maxHeartbeats 4000000 in
theorem rreset_any (g : LgV) (ep' : Nat) (w : World) (P : Nat → Prop) (hG : IsG P w g) (hO : OkG g.m) (he : ep' < 18446744073709551616) : Calls Try.prog 19 #[lgA g, .int .u64 (ep' : Int)] w (LogR P w (resetW g.m ep').1 (resetW g.m ep').2) := by
  obtain ⟨ra, rc, er⟩ := hG.form
  obtain ⟨⟨first, size, ep, li, en, recs, broken⟩, rv⟩ := g
  simp only at er
  subst er
  obtain ⟨h1, h2, h3, h4, h5⟩ := hO
  simp only at h1 h2 h3 h4 h5
  have HB := hide (fun x (h : Below w.heap.size w x) => hG.below h)
  have HN := hide (fun x => isRs_nil P x none 0)
  simp only at HB
  clear hG
  cases broken
  · by_cases hle : ep' ≤ ep
    · have hle2 : (ep' : Int) ≤ ep := by omega
      have HR : Hid (resetW ⟨first, size, ep, li, en, recs, false⟩ ep' = (⟨first, size, ep, li, en, recs, false⟩, 1)) := hide (by unfold resetW; simp [hle])
      rw [HR.out]
      clear HR hle
      have HF : Hid (∀ x, Below w.heap.size w x → LogR P w ⟨first, size, ep, li, en, recs, false⟩ 1 (.returned (.tuple #[lgA ⟨⟨first, size, ep, li, en, recs, false⟩, .slice ra recs.length rc⟩, .int .i64 1])) x) := hide (fun x h => ⟨_, rfl, rfl, HB.out x h, h⟩)
      generalize recs.length = rl at *
      go_enter Try.func19, Try.ntmps19
      go_wp2
      refine bodyPost_ret (v := .tuple #[lgA ⟨⟨first, size, ep, li, en, recs, false⟩, .slice ra rl rc⟩, .int .i64 1]) ?_ rfl (HF.out _ (below_allocs _ _ _ _))
      simp [results, Try.results19, go_sem]
    · have hle2 : ¬ (ep' : Int) ≤ ep := by omega
      have HR : Hid (resetW ⟨first, size, ep, li, en, recs, false⟩ ep' = (⟨first, size, ep', li, 0, [], false⟩, 0)) := hide (by unfold resetW; simp [hle])
      rw [HR.out]
      clear HR hle
      have HF : Hid (∀ x, Below w.heap.size w x → LogR P w ⟨first, size, ep', li, 0, [], false⟩ 0 (.returned (.tuple #[lgA ⟨⟨first, size, ep', li, 0, [], false⟩, .slice none 0 0⟩, .int .i64 0])) x) := hide (fun x h => ⟨_, rfl, rfl, HN.out x, h⟩)
      generalize recs.length = rl at *
      go_enter Try.func19, Try.ntmps19
      go_wp2
      refine bodyPost_ret (v := .tuple #[lgA ⟨⟨first, size, ep', li, 0, [], false⟩, .slice none 0 0⟩, .int .i64 0]) ?_ rfl (HF.out _ (below_allocs _ _ _ _))
      simp [results, Try.results19, go_sem]
  · have HR : Hid (resetW ⟨first, size, ep, li, en, recs, true⟩ ep' = (⟨first, size, ep, li, en, recs, true⟩, 9)) := hide (by unfold resetW; simp)
    rw [HR.out]
    clear HR
    have HF : Hid (∀ x, Below w.heap.size w x → LogR P w ⟨first, size, ep, li, en, recs, true⟩ 9 (.returned (.tuple #[lgA ⟨⟨first, size, ep, li, en, recs, true⟩, .slice ra recs.length rc⟩, .int .i64 9])) x) := hide (fun x h => ⟨_, rfl, rfl, HB.out x h, h⟩)
    generalize recs.length = rl at *
    go_enter Try.func19, Try.ntmps19
    go_wp2
    refine bodyPost_ret (v := .tuple #[lgA ⟨⟨first, size, ep, li, en, recs, true⟩, .slice ra rl rc⟩, .int .i64 9]) ?_ rfl (HF.out _ (below_allocs _ _ _ _))
    simp [results, Try.results19, go_sem]
/-- Are lists of records alike? -/
def sameW (a b : List Bs) : Bool := decide (a = b)
theorem recs_at {P : Nat → Prop} {w : World} {a : Option Addr} {n c : Nat} {recs : List Bs} (h : IsRs P w (.slice a n c) recs) (i : Nat) (hi : i < recs.length) : ∃ b o u, a = some ⟨b, o, none⟩ ∧ (∀ x, Below w.heap.size w x → x.cell? ⟨b, o + i, none⟩ = some u) ∧ IsYP (· < w.heap.size) w u recs[i] := by
  obtain ⟨l, rfl, h⟩ := h
  rw [List.length_map] at hi
  obtain ⟨b, o, e, hb, hc, hy⟩ := h.at_ i hi
  refine ⟨b, o, l[i].2, e, fun x hx => (hx.cell (cell_lt hc)).trans hc, ?_⟩
  rw [List.getElem_map]
  exact ⟨hy.1, fun hl k hk => (hy.2 hl k hk).2⟩
theorem conv_isYS {w : World} {a : Option Addr} {n c : Nat} {l : Bs} (h : IsY w (.slice a n c) l) (nq : Nat) : (convert 43 9 (.slice a n c)).run Try.prog (w.drewN nq) = .ok (.string ⟨l.toArray⟩) (w.drewN nq) := by
  rcases h with ⟨rfl, a', c', e⟩ | ⟨b, o, cap, e, _, hc⟩
  · injection e with e1 e2 e3
    subst e2
    exact conv_zeroC (w.drewN nq) a c
  · rw [e]
    exact conv_bytes (w.drewN nq) b o cap l (fun j hj => hc j hj)
set_option maxHeartbeats 4000000 in
theorem rsame17_any {P Q : Nat → Prop} (u v : Value) (a b : List Bs) (w : World) (hA : IsRs P w u a) (hB : IsRs Q w v b) (h1 : a.length ≤ 1000000) (h2 : b.length ≤ 1000000) : Calls Try.prog 25 #[u, v] w fun e w' => e = .returned (.bool (sameW a b)) ∧ Below w.heap.size w w' := by
  obtain ⟨ua, uc, rfl⟩ := hA.form
  obtain ⟨va, vc, rfl⟩ := hB.form
  by_cases hlen : a.length = b.length
  · have HX : Hid (∀ i, i < a.length → ∃ b1 o1 b2 o2 x1 x2 x3 y1 y2 y3, ∃ s t : Bs, ua = some ⟨b1, o1, none⟩ ∧ va = some ⟨b2, o2, none⟩ ∧ (∀ nq, (w.drewN nq).cell? ⟨b1, o1 + i, none⟩ = some (.slice x1 x2 x3) ∧ (w.drewN nq).cell? ⟨b2, o2 + i, none⟩ = some (.slice y1 y2 y3) ∧ (convert 43 9 (.slice x1 x2 x3)).run Try.prog (w.drewN nq) = .ok (.string ⟨s.toArray⟩) (w.drewN nq) ∧ (convert 43 9 (.slice y1 y2 y3)).run Try.prog (w.drewN nq) = .ok (.string ⟨t.toArray⟩) (w.drewN nq)) ∧ Hid ((s == t) = true ↔ a[i]? = b[i]?)) := hide (fun i hi => by
      obtain ⟨b1, o1, u1, e1, c1, i1⟩ := recs_at hA i hi
      obtain ⟨b2, o2, u2, e2, c2, i2⟩ := recs_at hB i (by omega)
      obtain ⟨x1, x3, rfl⟩ := i1.1.form
      obtain ⟨y1, y3, rfl⟩ := i2.1.form
      refine ⟨b1, o1, b2, o2, x1, _, x3, y1, _, y3, _, _, e1, e2, fun nq => ⟨c1 _ (below_drewN (Below.refl _ w) nq), c2 _ (below_drewN (Below.refl _ w) nq), conv_isYS i1.1 nq, conv_isYS i2.1 nq⟩, hide ?_⟩
      rw [List.getElem?_eq_getElem hi, List.getElem?_eq_getElem (show i < b.length by omega), beq_iff_eq]
      exact ⟨fun h => by rw [h], fun h => by injection h⟩)
    have HS : Hid (∀ i, i < a.length → a[i]? ≠ b[i]? → sameW a b = false) := hide (fun i hi h => by
      unfold sameW
      rw [decide_eq_false]
      rintro rfl
      exact h rfl)
    have HT : Hid ((∀ i, i < a.length → a[i]? = b[i]?) → sameW a b = true) := hide (fun h => by
      unfold sameW
      rw [decide_eq_true_eq]
      apply List.ext_getElem? 
      intro i
      by_cases hi : i < a.length
      · exact h i hi
      · rw [List.getElem?_eq_none (by omega), List.getElem?_eq_none (by omega)])
    have HBB := hide (fun nq => below_drewN (Below.refl w.heap.size w) nq)
    rw [← hlen]
    clear hA hB hlen h2
    generalize sameW a b = V at *
    generalize hL : a.length = L at *
    clear hL
    go_enter Try.func25, Try.ntmps25
    go_wp2
    go_loopw [5] (fun vi wr => ∃ i nq : Nat, vi = .int .i64 (i : Int) ∧ i ≤ L ∧ Hid (wr = w.drewN nq) ∧ Hid (∀ j, j < i → a[j]? = b[j]?)) (fun vi _ => L - (intOf vi).toNat)
    case atStart => exact ⟨0, 0, rfl, Nat.zero_le _, hide rfl, hide (fun j hj => by omega)⟩
    case round =>
      obtain ⟨i, nq, rfl, hi, HW, HP⟩ := hrel
      by_cases hlt : i < L
      · have hlt2 : (i : Int) < L := by omega
        obtain ⟨b1, o1, b2, o2, x1, x2, x3, y1, y2, y3, s, t, rfl, rfl, hc, HE⟩ := HX.out i hlt
        obtain rfl := HW.out
        obtain ⟨c1, c2, c3, c4⟩ := hc nq
        by_cases hst : (s == t) = true
        · have hne : (s != t) = false := by rw [bne, hst]; rfl
          have HP2 : Hid (∀ j, j < i + 1 → a[j]? = b[j]?) := hide (fun j hj => by
            by_cases h : j = i
            · subst h
              exact HE.out.1 hst
            · exact HP.out j (by omega))
          clear HE HP
          go_wp2
          go_quiet (fail)
          go_wp2
          go_round
          case rel => exact ⟨i + 1, _, by go_num, by omega, hide rfl, HP2⟩
          case measure => simp [intOf]; omega
        · have hst2 : (s == t) = false := by simpa using hst
          have hne : (s != t) = true := by rw [bne, hst2]; rfl
          have HV : Hid (V = false) := hide (HS.out i hlt fun h => hst (HE.out.2 h))
          clear HE HP HX HS HT hst
          go_wp2
          go_quiet (fail)
          go_wp2
          go_ret
          refine ⟨by rw [HV.out]; rfl, ?_⟩
          exact below_drewN (HBB.out _) _
      · have hlt2 : ¬ (i : Int) < L := by omega
        obtain rfl : i = L := by omega
        obtain rfl := HW.out
        have HV : Hid (V = true) := hide (HT.out HP.out)
        clear HW HX HS HT
        go_wp2
        go_ret
        exact ⟨by rw [HV.out]; rfl, HBB.out _⟩
  · have hne : ¬ (a.length : Int) = b.length := by omega
    have hV : sameW a b = false := by
      unfold sameW
      rw [decide_eq_false]
      intro e
      exact hlen (by rw [e])
    rw [hV]
    clear hV hA hB hlen
    generalize a.length = n at *
    generalize b.length = m at *
    go_enter Try.func25, Try.ntmps25
    go_wp2
    go_ret
    exact ⟨rfl, Below.refl _ _⟩
end Go.Proofs.Ythpepkfodcgbcaa
/- What the document's Sync answers; the boxes of a function that answers a log and a disk. -/
set_option linter.unusedVariables false
set_option linter.unusedSimpArgs false
set_option maxRecDepth 40000
namespace Go.Proofs.Ythpepkfodcgbcaa
open Go.RowKit

abbrev zeroLg : LgV := ⟨⟨0, 0, 0, 0, 0, [], false⟩, .slice none 0 0⟩
/-- The records lie there, in blocks below n0 or from B on. -/
def RecsIn (P : Nat → Prop) (n0 B : Nat) (x : World) (v : Value) (recs : List Bs) : Prop := ∃ l : List (Bs × Value), l.map Prod.fst = recs ∧ IsR (fun k => ((k < n0 ∧ P k) ∨ B ≤ k) ∧ k < x.heap.size) x v l
theorem RecsIn.keep {P : Nat → Prop} {n0 B : Nat} {x W : World} {v : Value} {recs : List Bs} (h : RecsIn P n0 B x v recs) (hs : x.heap.size ≤ W.heap.size) (hk : ∀ k, (k < n0 ∨ B ≤ k) → k < x.heap.size → W.heap[k]? = x.heap[k]?) : RecsIn P n0 B W v recs := by
  obtain ⟨l, e, h⟩ := h
  exact ⟨l, e, (h.keep fun k hp => hk k (hp.1.elim (fun q => .inl q.1) .inr) hp.2).mono fun k hp => ⟨hp.1, Nat.lt_of_lt_of_le hp.2 hs⟩⟩
theorem RecsIn.of {P : Nat → Prop} {n0 B : Nat} {w x : World} {v : Value} {recs : List Bs} (h : IsRs P w v recs) (hb : Below w.heap.size w x) (hn : w.heap.size ≤ n0) : RecsIn P n0 B x v recs := by
  obtain ⟨l, e, h⟩ := h
  refine ⟨l, e, (h.keep fun k hk => hb.block k hk.2).mono fun k hk => ⟨.inl ⟨Nat.lt_of_lt_of_le hk.2 hn, hk.1⟩, Nat.lt_of_lt_of_le hk.2 hb.size⟩⟩
theorem RecsIn.isRs {P : Nat → Prop} {n0 B : Nat} {x : World} {v : Value} {recs : List Bs} (h : RecsIn P n0 B x v recs) (hP : ∀ k, B ≤ k → P k) : IsRs P x v recs := by
  obtain ⟨l, e, h⟩ := h
  exact ⟨l, e, h.mono fun k hk => ⟨hk.1.elim (fun q => q.2) (hP k), hk.2⟩⟩
theorem RecsIn.form {P : Nat → Prop} {n0 B : Nat} {x : World} {v : Value} {recs : List Bs} (h : RecsIn P n0 B x v recs) : ∃ a c, v = .slice a recs.length c := by
  obtain ⟨l, rfl, h⟩ := h
  rw [List.length_map]
  exact h.form
theorem RecsIn.nil (P : Nat → Prop) (n0 B : Nat) (x : World) (a : Option Addr) (c : Nat) : RecsIn P n0 B x (.slice a 0 c) [] := ⟨[], rfl, .inl ⟨rfl, _, _, rfl⟩, fun x hx => by cases hx⟩
theorem lg_cells {w : World} {A : Nat} {g : LgV} (h : w.heap[A]? = some (.cells (lgC g) 40 (0, 0))) : (w.cell? ⟨A, 0, none⟩ = some (.int .i64 (g.m.first : Int)) ∧ w.cell? ⟨A, 1, none⟩ = some (.int .i64 (g.m.size : Int)) ∧ w.cell? ⟨A, 2, none⟩ = some (.int .u64 (g.m.ep : Int)) ∧ w.cell? ⟨A, 3, none⟩ = some (.int .u64 (g.m.li : Int)) ∧ w.cell? ⟨A, 4, none⟩ = some (.int .i64 (g.m.end_ : Int)) ∧ w.cell? ⟨A, 5, none⟩ = some g.rv ∧ w.cell? ⟨A, 6, none⟩ = some (.bool g.m.broken)) ∧ (w.frozen? ⟨A, 0, none⟩ = false ∧ w.frozen? ⟨A, 1, none⟩ = false ∧ w.frozen? ⟨A, 2, none⟩ = false ∧ w.frozen? ⟨A, 3, none⟩ = false ∧ w.frozen? ⟨A, 4, none⟩ = false ∧ w.frozen? ⟨A, 5, none⟩ = false ∧ w.frozen? ⟨A, 6, none⟩ = false) := by
  refine ⟨⟨?_, ?_, ?_, ?_, ?_, ?_, ?_⟩, ⟨?_, ?_, ?_, ?_, ?_, ?_, ?_⟩⟩ <;> simp [World.cell?, World.frozen?, h]
abbrev set7 (w : World) (b : Nat) (v0 v1 v2 v3 v4 v5 v6 : Value) : World := ((((((w.setCell ⟨b, 0, none⟩ v0).setCell ⟨b, 1, none⟩ v1).setCell ⟨b, 2, none⟩ v2).setCell ⟨b, 3, none⟩ v3).setCell ⟨b, 4, none⟩ v4).setCell ⟨b, 5, none⟩ v5).setCell ⟨b, 6, none⟩ v6
theorem set7_other (X : World) (b : Nat) (v0 v1 v2 v3 v4 v5 v6 : Value) : ∀ k, k ≠ b → (set7 X b v0 v1 v2 v3 v4 v5 v6).heap[k]? = X.heap[k]? := by
  intro k hk
  unfold set7
  rw [Below.heap_setCell _ _ _ _ hk, Below.heap_setCell _ _ _ _ hk, Below.heap_setCell _ _ _ _ hk, Below.heap_setCell _ _ _ _ hk, Below.heap_setCell _ _ _ _ hk, Below.heap_setCell _ _ _ _ hk, Below.heap_setCell _ _ _ _ hk]
theorem set7_size (X : World) (b : Nat) (v0 v1 v2 v3 v4 v5 v6 : Value) : (set7 X b v0 v1 v2 v3 v4 v5 v6).heap.size = X.heap.size := by simp [set7, World.setCell]
theorem below_set7 {B : Nat} {w x : World} {b : Nat} (hB : B ≤ b) (h : Below B w x) (v0 v1 v2 v3 v4 v5 v6 : Value) : Below B w (set7 x b v0 v1 v2 v3 v4 v5 v6) :=
  ((((((h.setCell (p := ⟨b, 0, none⟩) hB v0).setCell (p := ⟨b, 1, none⟩) hB v1).setCell (p := ⟨b, 2, none⟩) hB v2).setCell (p := ⟨b, 3, none⟩) hB v3).setCell (p := ⟨b, 4, none⟩) hB v4).setCell (p := ⟨b, 5, none⟩) hB v5).setCell (p := ⟨b, 6, none⟩) hB v6
theorem noStr_lg {w : World} {A : Nat} {g : LgV} (hf : ∃ a n c, g.rv = .slice a n c) (h : w.heap[A]? = some (.cells (lgC g) 40 (0, 0))) : NoStr w A := by
  obtain ⟨a, n, c, e⟩ := hf
  intro j s hj
  have h2 : w.cell? ⟨A, j, none⟩ = (lgC g)[j]? := by simp [World.cell?, h]
  rw [h2] at hj
  match j with
  | 0 => simp [lgC] at hj
  | 1 => simp [lgC] at hj
  | 2 => simp [lgC] at hj
  | 3 => simp [lgC] at hj
  | 4 => simp [lgC] at hj
  | 5 => simp [lgC, e] at hj
  | 6 => simp [lgC] at hj
  | j + 7 => simp [lgC] at hj
abbrev ldW (w : World) (g : LgV) (d : DV) : World := (((w.alloc (.cells (lgC g) 40)).alloc (.cells (dkC d) 31)).alloc (.cells (lgC zeroLg) 40)).alloc (.cells (dkC zeroDV) 31)
/-- The four boxes of a function that answers a log and a disk: its own two, and the answer's. -/
structure FourB (P : Nat → Prop) (w : World) (g : LgV) (d : DV) (x : World) : Prop where
  a : x.heap[w.heap.size]? = some (.cells (lgC g) 40 (0, 0))
  b : x.heap[w.heap.size + 1]? = some (.cells (dkC d) 31 (0, 0))
  c : x.heap[w.heap.size + 2]? = some (.cells (lgC zeroLg) 40 (0, 0))
  e : x.heap[w.heap.size + 3]? = some (.cells (dkC zeroDV) 31 (0, 0))
  g : RecsIn P w.heap.size (w.heap.size + 4) x g.rv g.m.recs
  i : IsD x d
  l : Below w.heap.size w x
  s : w.heap.size + 4 ≤ x.heap.size
  p : ∀ k, w.heap.size ≤ k → P k
theorem FourB.below {P : Nat → Prop} {w x W : World} {g : LgV} {d : DV} (h : FourB P w g d x) (hb : Below x.heap.size x W) : FourB P w g d W :=
  ⟨(hb.block _ (by have := h.s; omega)).trans h.a, (hb.block _ (by have := h.s; omega)).trans h.b, (hb.block _ (by have := h.s; omega)).trans h.c, (hb.block _ (by have := h.s; omega)).trans h.e, h.g.keep hb.size fun k _ hk => hb.block k hk, h.i.below hb, h.l.trans (hb.mono h.l.size), Nat.le_trans h.s hb.size, h.p⟩
theorem four_start {P : Nat → Prop} {w : World} {g : LgV} {d : DV} (hP : ∀ k, w.heap.size ≤ k → P k) (hG : IsG P w g) (hI : IsD w d) : FourB P w g d (ldW w g d) := by
  have b1 := below_alloc w (.cells (lgC g) 40)
  have n1 := alloc_new w (.cells (lgC g) 40)
  have z1 : (w.alloc (.cells (lgC g) 40)).heap.size = w.heap.size + 1 := by simp
  show FourB P w g d ((((w.alloc (.cells (lgC g) 40)).alloc (.cells (dkC d) 31)).alloc (.cells (lgC zeroLg) 40)).alloc (.cells (dkC zeroDV) 31))
  generalize w.alloc (.cells (lgC g) 40) = w1 at *
  have b2 := below_alloc w1 (.cells (dkC d) 31)
  have n2 := alloc_new w1 (.cells (dkC d) 31)
  have z2 : (w1.alloc (.cells (dkC d) 31)).heap.size = w.heap.size + 2 := by simp; omega
  generalize w1.alloc (.cells (dkC d) 31) = w2 at *
  have b3 := below_alloc w2 (.cells (lgC zeroLg) 40)
  have n3 := alloc_new w2 (.cells (lgC zeroLg) 40)
  have z3 : (w2.alloc (.cells (lgC zeroLg) 40)).heap.size = w.heap.size + 3 := by simp; omega
  generalize w2.alloc (.cells (lgC zeroLg) 40) = w3 at *
  have b4 := below_alloc w3 (.cells (dkC zeroDV) 31)
  have n4 := alloc_new w3 (.cells (dkC zeroDV) 31)
  have z4 : (w3.alloc (.cells (dkC zeroDV) 31)).heap.size = w.heap.size + 4 := by simp; omega
  generalize w3.alloc (.cells (dkC zeroDV) 31) = w4 at *
  have hb : Below w.heap.size w w4 := ((b1.trans (b2.mono (by omega))).trans (b3.mono (by omega))).trans (b4.mono (by omega))
  rw [z1] at n2
  rw [z2] at n3
  rw [z3] at n4
  refine ⟨?_, ?_, ?_, n4, RecsIn.of hG hb (Nat.le_refl _), hI.below hb, hb, by omega, hP⟩
  · rw [b4.block _ (by omega), b3.block _ (by omega), b2.block _ (by omega)]; exact n1
  · rw [b4.block _ (by omega), b3.block _ (by omega)]; exact n2
  · rw [b4.block _ (by omega)]; exact n3
/-- The disk's box is written over. -/
theorem FourB.putD {P : Nat → Prop} {w x : World} {g : LgV} {d e : DV} (h : FourB P w g d x) (hI : IsD x e) : FourB P w g e (set5 x (w.heap.size + 1) e.sv e.lv (.int .i64 e.m.left) (.bool e.m.fuse) (.bool e.m.off)) := by
  have o := set5_other x (w.heap.size + 1) e.sv e.lv (.int .i64 e.m.left) (.bool e.m.fuse) (.bool e.m.off)
  refine ⟨(o _ (by omega)).trans h.a, set5_dk h.b, (o _ (by omega)).trans h.c, (o _ (by omega)).trans h.e, h.g.keep (by rw [set5_size]; exact Nat.le_refl _) fun k hk _ => o k (by omega), hI.but (noStr_dk h.i h.b) o, below_set5 (by omega) h.l _ _ _ _ _, by rw [set5_size]; exact h.s, h.p⟩
/-- The log is broken. -/
theorem FourB.brk {P : Nat → Prop} {w x : World} {g : LgV} {d : DV} (h : FourB P w g d x) : FourB P w ⟨{ g.m with broken := true }, g.rv⟩ d (x.setCell ⟨w.heap.size, 6, none⟩ (.bool true)) := by
  have o : ∀ k, k ≠ w.heap.size → (x.setCell ⟨w.heap.size, 6, none⟩ (.bool true)).heap[k]? = x.heap[k]? := fun k hk => Below.heap_setCell _ _ _ _ hk
  have hf : ∃ a n c, g.rv = .slice a n c := by obtain ⟨a, c, e⟩ := h.g.form; exact ⟨_, _, _, e⟩
  refine ⟨?_, (o _ (by omega)).trans h.b, (o _ (by omega)).trans h.c, (o _ (by omega)).trans h.e, h.g.keep (by simp [World.setCell]) fun k hk _ => o k (by omega), h.i.but (noStr_lg hf h.a) o, h.l.setCell (p := ⟨w.heap.size, 6, none⟩) (Nat.le_refl _) _, ?_, h.p⟩
  · rw [setCell_box h.a 6 (.bool true)]
    rfl
  · simp [World.setCell]
    exact h.s
def LogDR (P : Nat → Prop) (w : World) (m' : LM) (d' : DM) (E : Int) (e : Ending) (w' : World) : Prop := ∃ (g : LgV) (d : DV), e = .returned (.tuple #[lgA g, dkA d, .int .i64 E]) ∧ g.m = m' ∧ d.m = d' ∧ IsG P w' g ∧ IsD w' d ∧ Below w.heap.size w w'
/-- The answer's boxes are written over, in either order. -/
theorem FourB.done {P : Nat → Prop} {w x : World} {g : LgV} {d : DV} (h : FourB P w g d x) (E : Int) (u0 u1 u2 u3 u4 u5 u6 v0 v1 v2 v3 v4 : Value) :
    LogDR P w g.m d.m E (.returned (.tuple #[lgA g, dkA d, .int .i64 E])) (set5 (set7 x (w.heap.size + 2) u0 u1 u2 u3 u4 u5 u6) (w.heap.size + 3) v0 v1 v2 v3 v4) ∧ LogDR P w g.m d.m E (.returned (.tuple #[lgA g, dkA d, .int .i64 E])) (set7 (set5 x (w.heap.size + 3) v0 v1 v2 v3 v4) (w.heap.size + 2) u0 u1 u2 u3 u4 u5 u6) := by
  have ns : NoStr x (w.heap.size + 2) := noStr_lg (g := zeroLg) ⟨none, 0, 0, rfl⟩ h.c
  have nd : NoStr x (w.heap.size + 3) := noStr_dk (isD_zero w) h.e
  have key : ∀ X : World, (∀ k, k ≠ w.heap.size + 2 → k ≠ w.heap.size + 3 → X.heap[k]? = x.heap[k]?) → X.heap.size = x.heap.size → Below w.heap.size w X → LogDR P w g.m d.m E (.returned (.tuple #[lgA g, dkA d, .int .i64 E])) X := by
    intro X ho hs hb
    refine ⟨g, d, rfl, rfl, rfl, (h.g.keep (by omega) fun k hk _ => ho k (by omega) (by omega)).isRs (fun k hk => h.p k (by omega)), ⟨?_, ?_⟩, hb⟩
    · rcases h.i.s with q | ⟨b, o, cap, q, hc⟩
      · exact .inl q
      · refine .inr ⟨b, o, cap, q, fun j hj => ?_⟩
        have h1 := hc j hj
        have n1 : b ≠ w.heap.size + 2 := fun e => ns _ _ (e ▸ h1)
        have n2 : b ≠ w.heap.size + 3 := fun e => nd _ _ (e ▸ h1)
        rw [cell_blk (ho b n1 n2)]
        exact h1
    · rcases h.i.l with q | ⟨b, o, cap, q, hc⟩
      · exact .inl q
      · refine .inr ⟨b, o, cap, q, fun j hj => ?_⟩
        obtain ⟨h1, h2⟩ := hc j hj
        have n1 : b ≠ w.heap.size + 2 := fun e => ns _ _ (e ▸ h2)
        have n2 : b ≠ w.heap.size + 3 := fun e => nd _ _ (e ▸ h2)
        rw [cell_blk (ho b n1 n2), cell_blk (ho b n1 n2)]
        exact ⟨h1, h2⟩
  constructor
  · refine key _ (fun k h1 h2 => ?_) ?_ (below_set5 (by omega) (below_set7 (by omega) h.l _ _ _ _ _ _ _) _ _ _ _ _)
    · rw [set5_other _ _ _ _ _ _ _ k h2, set7_other _ _ _ _ _ _ _ _ _ k h1]
    · rw [set5_size, set7_size]
  · refine key _ (fun k h1 h2 => ?_) ?_ (below_set7 (by omega) (below_set5 (by omega) h.l _ _ _ _ _) _ _ _ _ _ _ _)
    · rw [set7_other _ _ _ _ _ _ _ _ _ k h1, set5_other _ _ _ _ _ _ _ k h2]
    · rw [set7_size, set5_size]
theorem LogDR.drew {P : Nat → Prop} {w X : World} {m' : LM} {d' : DM} {E : Int} {e : Ending} (h : LogDR P w m' d' E e X) : LogDR P w m' d' E e X.drew := by
  obtain ⟨g, d, h1, h2, h3, h4, h5, h6⟩ := h
  exact ⟨g, d, h1, h2, h3, h4.below (Below.refl _ X).drew, h5.below (Below.refl _ X).drew, h6.drew⟩
set_option maxHeartbeats 8000000 in
theorem rsync_any (g : LgV) (d : DV) (w : World) (P : Nat → Prop) (hP : ∀ k, w.heap.size ≤ k → P k) (hG : IsG P w g) (hI : IsD w d) (hok : OkD d.m) (h1 : d.m.safe.length ≤ 100000) (h2 : d.m.l.length ≤ 100000) (hl : -9223372036854775808 < d.m.left ∧ d.m.left ≤ 9223372036854775807) :
    Calls Try.prog 17 #[lgA g, dkA d] w (LogDR P w (syncW g.m d.m).1 (syncW g.m d.m).2.1 (syncW g.m d.m).2.2) := by
  have hF := four_start hP hG hI
  obtain ⟨ra, rc, er⟩ := hG.form
  obtain ⟨sa, sc, es⟩ := hI.s.form
  obtain ⟨la, lc, el⟩ := hI.l.form
  have HFL : Hid (Calls Try.prog 52 #[dkA d] (ldW w g d) fun e w' => ∃ s1 l1 s2 s3 l2 l3, ∃ m' : DM, e = .returned (.tuple #[dkA ⟨m', .slice s1 s2 s3, .slice l1 l2 l3⟩, .int .i64 (flushD d.m).2]) ∧ Hid (m' = (flushD d.m).1) ∧ Hid (FourB P w g d w') ∧ Hid (FourB P w g ⟨m', .slice s1 s2 s3, .slice l1 l2 l3⟩ (((((w'.setCell ⟨w.heap.size + 1, 0, none⟩ (.slice s1 s2 s3)).setCell ⟨w.heap.size + 1, 1, none⟩ (.slice l1 l2 l3)).setCell ⟨w.heap.size + 1, 2, none⟩ (.int .i64 m'.left)).setCell ⟨w.heap.size + 1, 3, none⟩ (.bool m'.fuse)).setCell ⟨w.heap.size + 1, 4, none⟩ (.bool m'.off)))) := hide ((rflush_any d (ldW w g d) (hI.below hF.l) hok h1 h2 hl).mono fun e w' hh => by
    obtain ⟨d', rfl, e1, i1, b1⟩ := hh
    obtain ⟨s1, s3, q1⟩ := i1.s.form
    obtain ⟨l1, l3, q2⟩ := i1.l.form
    obtain ⟨m', sv, lv⟩ := d'
    simp only at q1 q2 e1
    subst q1 q2
    exact ⟨s1, l1, _, s3, _, l3, m', rfl, hide e1, hide (hF.below b1), hide ((hF.below b1).putD i1)⟩)
  obtain ⟨m, sv, lv⟩ := d
  obtain ⟨⟨first, size, ep, li, en, recs, broken⟩, rv⟩ := g
  simp only at er es el h1 h2 hl hok
  subst er es el
  have HF4 := hide hF
  clear hok hG hI hF
  cases broken
  · have HR : Hid (syncW ⟨first, size, ep, li, en, recs, false⟩ m = ((if (flushD m).2 = 0 then ⟨first, size, ep, li, en, recs, false⟩ else ⟨first, size, ep, li, en, recs, true⟩), (flushD m).1, (flushD m).2)) := hide (by unfold syncW; simp)
    rw [HR.out]
    clear HR
    simp only at HFL
    generalize hE : (flushD m).2 = E at *
    generalize (flushD m).1 = M at *
    clear HF4 h1 h2 hl
    generalize recs.length = rl at *
    generalize m.safe.length = k1 at *
    generalize m.l.length = k2 at *
    by_cases hE0 : E = 0
    · subst hE0
      rw [if_pos rfl]
      go_enter Try.func17, Try.ntmps17
      go_wp2_with fail
      refine HFL.out.mono ?_
      rintro e w1 ⟨s1, l1, s2, s3, l2, l3, m', rfl, HM, HA, HB⟩
      obtain rfl := HM.out
      obtain ⟨⟨x0, x1, x2, x3, x4, x5, x6⟩, f0, f1, f2, f3, f4, f5, f6⟩ := lg_cells HA.out.a
      obtain ⟨y0, y1, y2, y3, y4, g0, g1, g2, g3, g4⟩ := dk_cells HA.out.b
      simp only at x0 x1 x2 x3 x4 x5 x6 y0 y1 y2 y3 y4
      clear HFL HA
      go_wp2
      have FB := HB.out
      generalize (((((w1.setCell ⟨w.heap.size + 1, 0, none⟩ (.slice s1 s2 s3)).setCell ⟨w.heap.size + 1, 1, none⟩ (.slice l1 l2 l3)).setCell ⟨w.heap.size + 1, 2, none⟩ (.int .i64 m'.left)).setCell ⟨w.heap.size + 1, 3, none⟩ (.bool m'.fuse)).setCell ⟨w.heap.size + 1, 4, none⟩ (.bool m'.off)) = W at FB ⊢
      clear x0 x1 x2 x3 x4 x5 x6 f0 f1 f2 f3 f4 f5 f6 y0 y1 y2 y3 y4 g0 g1 g2 g3 g4 HB
      obtain ⟨⟨x0, x1, x2, x3, x4, x5, x6⟩, f0, f1, f2, f3, f4, f5, f6⟩ := lg_cells FB.a
      obtain ⟨y0, y1, y2, y3, y4, g0, g1, g2, g3, g4⟩ := dk_cells FB.b
      obtain ⟨⟨p0, p1, p2, p3, p4, p5, p6⟩, q0, q1, q2, q3, q4, q5, q6⟩ := lg_cells FB.c
      obtain ⟨r0, r1, r2, r3, r4, t0, t1, t2, t3, t4⟩ := dk_cells FB.e
      have HFB := hide (FB.done 0)
      clear FB
      simp only at x0 x1 x2 x3 x4 x5 x6 y0 y1 y2 y3 y4 HFB
      go_region
      go_wp2
      refine bodyPost_ret (v := .tuple #[lgA ⟨⟨first, size, ep, li, en, recs, false⟩, .slice ra rl rc⟩, dkA ⟨m', .slice s1 s2 s3, .slice l1 l2 l3⟩, .int .i64 0]) ?_ rfl ?_
      · simp [results, Try.results17, go_sem, p0, p1, p2, p3, p4, p5, p6, r0, r1, r2, r3, r4]
      · exact (HFB.out _ _ _ _ _ _ _ _ _ _ _ _).1.drew
    · rw [if_neg hE0]
      have hne : (E != 0) = true := by simpa using hE0
      go_enter Try.func17, Try.ntmps17
      go_wp2_with fail
      refine HFL.out.mono ?_
      rintro e w1 ⟨s1, l1, s2, s3, l2, l3, m', rfl, HM, HA, HB⟩
      obtain rfl := HM.out
      obtain ⟨⟨x0, x1, x2, x3, x4, x5, x6⟩, f0, f1, f2, f3, f4, f5, f6⟩ := lg_cells HA.out.a
      obtain ⟨y0, y1, y2, y3, y4, g0, g1, g2, g3, g4⟩ := dk_cells HA.out.b
      simp only at x0 x1 x2 x3 x4 x5 x6 y0 y1 y2 y3 y4
      clear HFL HA
      go_wp2
      clear hne hE0 hE
      have FB := HB.out.brk
      generalize ((((((w1.setCell ⟨w.heap.size + 1, 0, none⟩ (.slice s1 s2 s3)).setCell ⟨w.heap.size + 1, 1, none⟩ (.slice l1 l2 l3)).setCell ⟨w.heap.size + 1, 2, none⟩ (.int .i64 m'.left)).setCell ⟨w.heap.size + 1, 3, none⟩ (.bool m'.fuse)).setCell ⟨w.heap.size + 1, 4, none⟩ (.bool m'.off)).setCell ⟨w.heap.size, 6, none⟩ (.bool true)) = W at FB ⊢
      clear x0 x1 x2 x3 x4 x5 x6 f0 f1 f2 f3 f4 f5 f6 y0 y1 y2 y3 y4 g0 g1 g2 g3 g4 HB
      obtain ⟨⟨x0, x1, x2, x3, x4, x5, x6⟩, f0, f1, f2, f3, f4, f5, f6⟩ := lg_cells FB.a
      obtain ⟨y0, y1, y2, y3, y4, g0, g1, g2, g3, g4⟩ := dk_cells FB.b
      obtain ⟨⟨p0, p1, p2, p3, p4, p5, p6⟩, q0, q1, q2, q3, q4, q5, q6⟩ := lg_cells FB.c
      obtain ⟨r0, r1, r2, r3, r4, t0, t1, t2, t3, t4⟩ := dk_cells FB.e
      have HFB := hide (FB.done E)
      clear FB
      simp only at x0 x1 x2 x3 x4 x5 x6 y0 y1 y2 y3 y4 HFB
      go_region
      go_wp2
      refine bodyPost_ret (v := .tuple #[lgA ⟨⟨first, size, ep, li, en, recs, true⟩, .slice ra rl rc⟩, dkA ⟨m', .slice s1 s2 s3, .slice l1 l2 l3⟩, .int .i64 E]) ?_ rfl ?_
      · simp [results, Try.results17, go_sem, p0, p1, p2, p3, p4, p5, p6, r0, r1, r2, r3, r4]
      · exact (HFB.out _ _ _ _ _ _ _ _ _ _ _ _).1.drew
  · have HR : Hid (syncW ⟨first, size, ep, li, en, recs, true⟩ m = (⟨first, size, ep, li, en, recs, true⟩, m, 9)) := hide (by unfold syncW; simp)
    rw [HR.out]
    clear HR HFL h1 h2 hl
    generalize recs.length = rl at *
    generalize m.safe.length = k1 at *
    generalize m.l.length = k2 at *
    go_enter Try.func17, Try.ntmps17
    go_wp2
    have FB : FourB P w ⟨⟨first, size, ep, li, en, recs, true⟩, .slice ra rl rc⟩ ⟨m, .slice sa k1 sc, .slice la k2 lc⟩ ((((w.alloc (.cells (lgC ⟨⟨first, size, ep, li, en, recs, true⟩, .slice ra rl rc⟩) 40)).alloc (.cells (dkC ⟨m, .slice sa k1 sc, .slice la k2 lc⟩) 31)).alloc (.cells #[.int .i64 0, .int .i64 0, .int .u64 0, .int .u64 0, .int .i64 0, .slice none 0 0, .bool false] 40)).alloc (.cells #[.slice none 0 0, .slice none 0 0, .int .i64 0, .bool false, .bool false] 31)) := HF4.out
    clear HF4
    generalize ((((w.alloc (.cells (lgC ⟨⟨first, size, ep, li, en, recs, true⟩, .slice ra rl rc⟩) 40)).alloc (.cells (dkC ⟨m, .slice sa k1 sc, .slice la k2 lc⟩) 31)).alloc (.cells #[.int .i64 0, .int .i64 0, .int .u64 0, .int .u64 0, .int .i64 0, .slice none 0 0, .bool false] 40)).alloc (.cells #[.slice none 0 0, .slice none 0 0, .int .i64 0, .bool false, .bool false] 31)) = W at FB ⊢
    obtain ⟨⟨x0, x1, x2, x3, x4, x5, x6⟩, f0, f1, f2, f3, f4, f5, f6⟩ := lg_cells FB.a
    obtain ⟨y0, y1, y2, y3, y4, g0, g1, g2, g3, g4⟩ := dk_cells FB.b
    obtain ⟨⟨p0, p1, p2, p3, p4, p5, p6⟩, q0, q1, q2, q3, q4, q5, q6⟩ := lg_cells FB.c
    obtain ⟨r0, r1, r2, r3, r4, t0, t1, t2, t3, t4⟩ := dk_cells FB.e
    have HFB := hide (FB.done 9)
    clear FB
    simp only at x0 x1 x2 x3 x4 x5 x6 y0 y1 y2 y3 y4 HFB
    go_region
    go_wp2
    refine bodyPost_ret (v := .tuple #[lgA ⟨⟨first, size, ep, li, en, recs, true⟩, .slice ra rl rc⟩, dkA ⟨m, .slice sa k1 sc, .slice la k2 lc⟩, .int .i64 9]) ?_ rfl ?_
    · simp [results, Try.results17, go_sem, p0, p1, p2, p3, p4, p5, p6, r0, r1, r2, r3, r4]
    · exact (HFB.out _ _ _ _ _ _ _ _ _ _ _ _).1.drew
end Go.Proofs.Ythpepkfodcgbcaa
/- What the document's Open answers. -/
set_option linter.unusedVariables false
set_option linter.unusedSimpArgs false
set_option maxRecDepth 40000
namespace Go.Proofs.Ythpepkfodcgbcaa
open Go.RowKit

def OpenR (P : Nat → Prop) (w : World) (r : Option LM × Int) (e : Ending) (w' : World) : Prop := ∃ g : LgV, e = .returned (.tuple #[lgA g, .int .i64 r.2]) ∧ g.m = r.1.getD zeroLg.m ∧ IsG P w' g ∧ Below w.heap.size w w'
/-- The log's box while records are read. -/
structure OpS (X0 : World) (bx : Nat) (m : LM) (l : List (Bs × Value)) (v : Value) (x : World) : Prop where
  box : x.heap[bx]? = some (.cells (lgC ⟨m, v⟩) 40 (0, 0))
  s : RecS (fun k => X0.heap.size ≤ k) 0 (bx + 1) x l v
  b : Below X0.heap.size X0 x
  lt : X0.heap.size ≤ bx ∧ bx < x.heap.size
theorem OpS.below {X0 x y : World} {bx : Nat} {m : LM} {l : List (Bs × Value)} {v : Value} (h : OpS X0 bx m l v x) (hb : Below x.heap.size x y) : OpS X0 bx m l v y :=
  ⟨(hb.block bx h.lt.2).trans h.box, h.s.below hb, h.b.trans (hb.mono h.b.size), h.lt.1, Nat.lt_of_lt_of_le h.lt.2 hb.size⟩
theorem OpS.start {X0 : World} (m : LM) : OpS X0 X0.heap.size m [] (.slice none 0 0) (X0.alloc (.cells (lgC ⟨m, .slice none 0 0⟩) 40)) :=
  ⟨alloc_new X0 _, recS_nil _ _ _ _, below_alloc X0 _, Nat.le_refl _, by simp⟩
theorem OpS.step {X0 x : World} {bx : Nat} {m : LM} {l : List (Bs × Value)} {v : Value} (h : OpS X0 bx m l v x) {a : Option Addr} {c : Nat} {d : Bs} (hu : IsY x (.slice a d.length c) d) (hq : ∀ j, (Value.slice a d.length c).ownBlock = some j → bx + 1 ≤ j ∧ v.ownBlock ≠ some j) (hn : l.length ≤ 1000000) (en : Nat) :
    ∃ a' c' w', (Builtin.append_ #[38, 38] 38 #[v, .slice (some ⟨x.heap.size, 0, none⟩) 1 1]).run Try.prog (x.alloc (.cells #[.slice a d.length c] 43)) = .ok (.slice a' (l.length + 1) c') w' ∧ (∃ old, w'.cell? ⟨bx, 5, none⟩ = some old) ∧ w'.frozen? ⟨bx, 5, none⟩ = false ∧ (∀ u, (w'.setCell ⟨bx, 5, none⟩ u).cell? ⟨bx, 4, none⟩ = some (.int .i64 (m.end_ : Int))) ∧ w'.frozen? ⟨bx, 4, none⟩ = false ∧ OpS X0 bx { m with end_ := en, recs := m.recs ++ [d] } (l ++ [(d, .slice a d.length c)]) (.slice a' (l.length + 1) c') ((w'.setCell ⟨bx, 5, none⟩ (.slice a' (l.length + 1) c')).setCell ⟨bx, 4, none⟩ (.int .i64 (en : Int))) := by
  obtain ⟨a', c', w', hr, hS, ⟨hb, hk⟩, hat⟩ := h.s.step (a := a) (k := d.length) (c := c) (d := d) hu (fun _ j hj => ⟨.inr (hq j hj).1, (hq j hj).2⟩) hn (by have := h.lt.2; omega) (Nat.zero_le _)
  have hbox : w'.heap[bx]? = some (.cells (lgC ⟨m, v⟩) 40 (0, 0)) := (hk bx h.lt.2 (fun e => by have := (h.s.o.lt bx e).1; omega)).trans h.box
  obtain ⟨⟨x0, x1, x2, x3, x4, x5, x6⟩, f0, f1, f2, f3, f4, f5, f6⟩ := lg_cells hbox
  have hsz : ((w'.setCell ⟨bx, 5, none⟩ (.slice a' (l.length + 1) c')).setCell ⟨bx, 4, none⟩ (.int .i64 (en : Int))).heap.size = w'.heap.size := by simp [World.setCell]
  have ho : ∀ k, k ≠ bx → ((w'.setCell ⟨bx, 5, none⟩ (.slice a' (l.length + 1) c')).setCell ⟨bx, 4, none⟩ (.int .i64 (en : Int))).heap[k]? = w'.heap[k]? := fun k hk => by rw [Below.heap_setCell _ _ _ _ hk, Below.heap_setCell _ _ _ _ hk]
  have hlt := h.lt
  have hbs := hb.size
  refine ⟨a', c', w', hr, ⟨_, x5⟩, f5, fun u => ?_, f4, ⟨?_, hS.keep (by rw [hsz]; exact Nat.le_refl _) fun k hk _ => ho k (by omega), ?_, hlt.1, by rw [hsz]; omega⟩⟩
  · exact (World.cell?_setCell_other _ _ _ _ (by intro e; injection e; omega)).trans x4
  · rw [setCell_box (setCell_box hbox 5 _) 4 _]
    rfl
  · exact ((h.b.trans ⟨hb.os, hb.tape, hb.output, hb.size, fun k hk => hb.block k (by omega)⟩).setCell (p := ⟨bx, 5, none⟩) hlt.1 _).setCell (p := ⟨bx, 4, none⟩) hlt.1 _
theorem life_take (l : List Bs) (i : Nat) (x : Bs) (h : l[i]? = some x) : lifeW (l.take (i + 1)) = match decC x with | some c => max (lifeW (l.take i)) c.li | none => lifeW (l.take i) := by
  obtain ⟨hi, rfl⟩ := List.getElem?_eq_some_iff.1 h
  rw [List.take_succ_eq_append_getElem hi]
  unfold lifeW
  rw [List.foldl_append]
  rfl
theorem life_lt (l : List Bs) : lifeW l < 18446744073709551616 := Nat.lt_of_le_of_lt (life_le (B := 18446744073709551615) fun x _ c hc => by have := (dec_li hc).2.1; omega) (by decide)
theorem read_step {ep k : Nat} {m : List Bs} {least : Nat} (hk : m.length ≤ k) : (recL ep m = none → readL ep k m least = []) ∧ ∀ b li n, recL ep m = some (b, li, n) → (least ≤ li → readL ep k m least = (b, li, n) :: readL ep (k - 1) (m.drop n) li ∧ (m.drop n).length ≤ k - 1) ∧ (¬ least ≤ li → readL ep k m least = []) := by
  cases k with
  | zero =>
    obtain rfl : m = [] := List.eq_nil_of_length_eq_zero (by omega)
    exact ⟨fun _ => rfl, fun b li n h => by cases h⟩
  | succ k =>
    refine ⟨fun h => ?_, fun b li n h => ⟨fun hle => ?_, fun hle => ?_⟩⟩
    · unfold readL; rw [h]
    · obtain ⟨_, _, _, _, h0, hl, _⟩ := rec_some h
      refine ⟨?_, by rw [List.length_drop]; omega⟩
      conv => lhs; unfold readL
      rw [h]
      simp only
      rw [if_pos hle]
      rfl
    · unfold readL
      rw [h]
      simp only
      rw [if_neg hle]
end Go.Proofs.Ythpepkfodcgbcaa
/- What the document's Open answers of no region, and of a disk whose power is off. -/
set_option linter.unusedVariables false
set_option linter.unusedSimpArgs false
set_option maxRecDepth 40000
namespace Go.Proofs.Ythpepkfodcgbcaa
open Go.RowKit

theorem openR_no {P : Nat → Prop} {w : World} {E : Int} {x : World} (hb : Below w.heap.size w x) : OpenR P w (none, E) (.returned (.tuple #[lgA zeroLg, .int .i64 E])) x := ⟨zeroLg, rfl, rfl, isRs_nil P x none 0, hb⟩
set_option maxHeartbeats 8000000 in
theorem ropen_bad (P : Nat → Prop) (d : DV) (first size : Int) (ep : Nat) (w : World) (hI : IsD w d) (hs : d.m.safe.length ≤ 100000) (h1 : -9223372036854775808 ≤ first ∧ first ≤ 9223372036854775807) (h2 : -9223372036854775808 ≤ size ∧ size ≤ 9223372036854775807) (h : isReg d.m first size = false ∨ d.m.off = true) :
    Calls Try.prog 12 #[dkA d, .int .i64 first, .int .i64 size, .int .u64 (ep : Int)] w (OpenR P w (openW d.m first size ep)) := by
  obtain ⟨sa, sc, es⟩ := hI.s.form
  obtain ⟨la, lc, el⟩ := hI.l.form
  obtain ⟨m, sv, lv⟩ := d
  simp only at es el hs h
  subst es el
  have HR1 : Hid (isReg m first size = false → openW m first size ep = (none, 1)) := hide (fun h => by unfold openW; rw [h]; rfl)
  have HR9 : Hid (isReg m first size = true → m.off = true → openW m first size ep = (none, 9)) := hide (fun h h2 => by unfold openW; rw [h, h2]; rfl)
  have hdiv : ((m.safe.length : Nat) : Int).tdiv 4 = ((m.safe.length / 4 : Nat) : Int) := by rw [Int.tdiv_eq_ediv_of_nonneg (by omega)]; omega
  have hdef : isReg m first size = true ↔ (0 ≤ first ∧ 1 ≤ size ∧ size ≤ ((m.safe.length / 4 : Nat) : Int) ∧ first ≤ ((m.safe.length / 4 : Nat) : Int) - size) := by
    unfold isReg
    rw [Bool.and_eq_true, Bool.and_eq_true, Bool.and_eq_true, decide_eq_true_eq, decide_eq_true_eq, decide_eq_true_eq, decide_eq_true_eq]
  have HF := hide (fun (E : Int) x (hb : Below w.heap.size w x) => openR_no (P := P) (w := w) (E := E) hb)
  obtain ⟨safe, l, left, fuse, off⟩ := m
  simp only at hs h hdiv hdef HR1 HR9
  clear hI
  generalize hk : safe.length = k1 at *
  generalize l.length = k2 at *
  generalize hqq : k1 / 4 = q at *
  have hq : (q : Int) ≤ 100000 := by omega
  clear hqq hk
  by_cases c1 : first < 0
  · have hno : isReg ⟨safe, l, left, fuse, off⟩ first size = false := by rw [Bool.eq_false_iff]; intro e; have := hdef.1 e; omega
    rw [HR1.out hno]
    clear hdef h HR1 HR9 hno
    go_enter Try.func12, Try.ntmps12
    go_wp2
    refine bodyPost_ret (v := .tuple #[lgA zeroLg, .int .i64 1]) ?_ rfl (HF.out 1 _ (below_allocs _ _ _ _))
    simp [results, Try.results12, go_sem]
  · by_cases c2 : size < 1
    · have hno : isReg ⟨safe, l, left, fuse, off⟩ first size = false := by rw [Bool.eq_false_iff]; intro e; have := hdef.1 e; omega
      rw [HR1.out hno]
      clear hdef h HR1 HR9 hno
      go_enter Try.func12, Try.ntmps12
      go_wp2
      refine bodyPost_ret (v := .tuple #[lgA zeroLg, .int .i64 1]) ?_ rfl (HF.out 1 _ (below_allocs _ _ _ _))
      simp [results, Try.results12, go_sem]
    · by_cases c3 : (q : Int) < size
      · have hno : isReg ⟨safe, l, left, fuse, off⟩ first size = false := by rw [Bool.eq_false_iff]; intro e; have := hdef.1 e; omega
        rw [HR1.out hno]
        clear hdef h HR1 HR9 hno
        go_enter Try.func12, Try.ntmps12
        go_wp2
        refine bodyPost_ret (v := .tuple #[lgA zeroLg, .int .i64 1]) ?_ rfl (HF.out 1 _ (below_allocs _ _ _ _))
        simp [results, Try.results12, go_sem]
      · by_cases c4 : (q : Int) - size < first
        · have hno : isReg ⟨safe, l, left, fuse, off⟩ first size = false := by rw [Bool.eq_false_iff]; intro e; have := hdef.1 e; omega
          rw [HR1.out hno]
          clear hdef h HR1 HR9 hno
          go_enter Try.func12, Try.ntmps12
          go_wp2
          refine bodyPost_ret (v := .tuple #[lgA zeroLg, .int .i64 1]) ?_ rfl (HF.out 1 _ (below_allocs _ _ _ _))
          simp [results, Try.results12, go_sem]
        · have hyes : isReg ⟨safe, l, left, fuse, off⟩ first size = true := hdef.2 (by omega)
          obtain rfl : off = true := by
            rcases h with h | h
            · rw [hyes] at h; cases h
            · exact h
          rw [HR9.out hyes rfl]
          clear hdef h HR1 HR9 hyes
          go_enter Try.func12, Try.ntmps12
          go_wp2
          refine bodyPost_ret (v := .tuple #[lgA zeroLg, .int .i64 9]) ?_ rfl (HF.out 9 _ (below_allocs _ _ _ _))
          simp [results, Try.results12, go_sem]
end Go.Proofs.Ythpepkfodcgbcaa
