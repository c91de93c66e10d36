import Derived.Test.YthpepkfodcgbcaaWq29
import Derived.Test.YthpepkfodcgbcaaWq32
import Derived.Test.YthpepkfodcgbcaaWq27
/- What the program's read does. -/
set_option linter.unusedVariables false
set_option linter.unusedSimpArgs false
set_option maxRecDepth 40000
namespace Go.Proofs.Ythpepkfodcgbcaa
open Go.RowKit

/-- While records are read. -/
structure LrS (w : World) (a : Nat) (dv tv0 ev0 : Value) (m : LM) (rs : List (Bs × Nat × Nat)) (x : World) : Prop where
  i : ∃ tv ev, IsLP x a dv tv ev { m with recs := told rs, end_ := sumP rs } ∧ Grew (lpA a tv0 ev0) (lpA a tv ev) w.heap.size
  b : ButA (lpA a tv0 ev0) w x
theorem LrS.below {w x y : World} {a : Nat} {dv tv0 ev0 : Value} {m : LM} {rs : List (Bs × Nat × Nat)} (h : LrS w a dv tv0 ev0 m rs x) (hb : Below x.heap.size x y) : LrS w a dv tv0 ev0 m rs y := by
  obtain ⟨⟨tv, ev, h1, h2⟩, h3⟩ := h
  exact ⟨⟨tv, ev, h1.below hb, h2⟩, h3.trans (ButA.of (A := fun _ => False) hb) fun _ _ h => h.elim⟩
theorem LrS.cells {w x : World} {a : Nat} {dv tv0 ev0 : Value} {m : LM} {rs : List (Bs × Nat × Nat)} (h : LrS w a dv tv0 ev0 m rs x) : x.cell? ⟨a, 3, none⟩ = some (.int .u64 (m.ep : Int)) ∧ x.cell? ⟨a, 5, none⟩ = some (.int .i64 ((sumP rs : Nat) : Int)) ∧ a < x.heap.size := by
  obtain ⟨⟨tv, ev, h1, h2⟩, h3⟩ := h
  obtain ⟨_, _, _, x3, _, x5, _⟩ := lp_cells h1.box
  exact ⟨x3, x5, h1.lt a (.inl rfl)⟩
/-- A record more. -/
theorem LrS.take {w wr x : World} {a : Nat} {dv tv0 ev0 bv : Value} {m : LM} {rs : List (Bs × Nat × Nat)} (h : LrS w a dv tv0 ev0 m rs wr) (hb : Below wr.heap.size wr x) {b : Bs} {li n bx : Nat} (hY : IsY x bv b) (hr : RecOk b) (hn : n = (b.length + 38) / 39) (h0 : 0 < n) (hs : sumP rs + n ≤ 20000) (hbw : wr.heap.size ≤ bx) (hbl : bx < x.heap.size) {u : Value} (hc : x.cell? ⟨bx, 1, none⟩ = some u) :
    Calls Try.prog 47 #[.pointer (some ⟨a, 0, none⟩), bv, .int .i64 (n : Int)] x fun e y => e = .returned (.tuple #[]) ∧ y.cell? ⟨bx, 1, none⟩ = some u ∧ Hid (LrS w a dv tv0 ev0 m (rs ++ [(b, li, n)]) y) := by
  have hx3 := (h.below hb).b
  obtain ⟨⟨tv, ev, h1, h2⟩, h3⟩ := h
  have hnb2 : ¬ lpA a tv ev bx := fun hl => by
    have := h1.lt bx hl
    omega
  refine (ptake_any a dv tv ev bv { m with recs := told rs, end_ := sumP rs } b n x (h1.below hb) hY hr.ne (by omega) hs h0).mono ?_
  rintro e y ⟨rfl, tv', ev', q1, q2, q3⟩
  refine ⟨rfl, (cell_blk (q3.block bx hbl hnb2) 1).trans hc, hide ⟨⟨tv', ev', ?_, ?_⟩, hx3.trans q3 fun k hk hl => ?_⟩⟩
  · have e1 : told (rs ++ [(b, li, n)]) = told rs ++ [b] := by rw [told_app]; rfl
    rw [e1, sumP_app]
    exact q1
  · intro k hk
    rcases q2 k hk with h | h
    · exact h2 k h
    · exact .inr (Nat.le_trans hx3.size h)
  · rcases h2 k hl with h | h
    · exact h
    · omega
theorem rp_at {ep least : Nat} {SS : List Bs} {l : List (CL × Value)} (hm : l.map Prod.fst = SS.map cellO) (s : Nat) (y : CL × Value) (hy : l[s]? = some y) : recP ep ((SS.drop s).map cellO) least = if y.1.ep = ep ∧ least ≤ y.1.li ∧ y.1.of ≤ ((l.length - s : Nat) : Int) then (match joinC (((l.drop s).take y.1.of.toNat).map Prod.fst) with | none => none | some b => some (b, y.1.li, y.1.of.toNat)) else none := by
  obtain ⟨hs, rfl⟩ := List.getElem?_eq_some_iff.1 hy
  have e1 : (SS.drop s).map cellO = l[s].1 :: (l.drop (s + 1)).map Prod.fst := by
    rw [List.map_drop, ← hm, ← List.map_drop, List.drop_eq_getElem_cons hs, List.map_cons]
  have e2 : ((l.drop s).take l[s].1.of.toNat).map Prod.fst = (l[s].1 :: (l.drop (s + 1)).map Prod.fst).take l[s].1.of.toNat := by
    rw [List.map_take, List.drop_eq_getElem_cons hs, List.map_cons]
  have e3 : (l[s].1 :: (l.drop (s + 1)).map Prod.fst).length = l.length - s := by rw [List.length_cons, List.length_map, List.length_drop]; omega
  rw [e1, e2]
  unfold recP
  simp only [e3]
  rfl
theorem cellO_ok (s : Bs) : 0 ≤ (cellO s).of ∧ (cellO s).of ≤ 65535 ∧ (cellO s).data.length ≤ 39 := by
  cases h : decC s with
  | none => rw [cellO_none h]; exact ⟨by decide, by decide, by decide⟩
  | some c =>
    rw [cellO_some h]
    have := (enc_dec h).2.1
    exact ⟨by omega, this.2.2.1, this.2.2.2⟩
def JoinX (bx a s n : Nat) (l : List CL) (x : World) (e : Ending) (y : World) : Prop := ∃ (ba : Option Addr) (bn bk : Nat) (ok : Bool), e = .returned (.tuple #[.slice ba bn bk, .bool ok]) ∧ (y.cell? ⟨a, 5, none⟩ = some (.int .i64 (s : Int)) ∧ y.cell? ⟨bx, 3, none⟩ = some (.int .i64 (n : Int))) ∧ Hid (Below x.heap.size x y ∧ ((ok = false ∧ joinC l = none) ∨ ∃ b, ok = true ∧ joinC l = some b ∧ IsY y (.slice ba bn bk) b))
theorem read_fit {s n : Nat} (h1 : s ≤ 20000) (h2 : n ≤ 65535) : wrap64 ((s : Int) + (n : Int)) = ((s + n : Nat) : Int) ∧ IntKind.i64.wrap ((s : Int) + (n : Int)) = ((s + n : Nat) : Int) := by
  rw [IntKind.wrap_i64]
  unfold wrap64
  omega
set_option maxHeartbeats 32000000 in
theorem plog_read (a : Nat) (dv tv0 ev0 : Value) (m : LM) (la : Option Addr) (lc : Nat) (l : List (CL × Value)) (SS : List Bs) (w : World) (h : IsLP w a dv tv0 ev0 m) (hr0 : m.recs = []) (he0 : m.end_ = 0) (hm : l.map Prod.fst = SS.map cellO) (hkeep : ∀ x, ButA (lpA a tv0 ev0) w x → IsL x (.slice la l.length lc) l) (hcap : l.length ≤ lc) (hln : l.length ≤ 1000) :
    Calls Try.prog 41 #[.pointer (some ⟨a, 0, none⟩), .slice la l.length lc] w fun e w' => e = .returned (.tuple #[]) ∧ LrS w a dv tv0 ev0 m (readL m.ep SS.length SS 0) w' := by
  have hSL : SS.length = l.length := by have := congrArg List.length hm; rw [List.length_map, List.length_map] at this; exact this.symm
  have HS0 : Hid (LrS w a dv tv0 ev0 m [] w) := hide ⟨⟨tv0, ev0, by
    have e : ({ m with recs := told [], end_ := sumP [] } : LM) = m := by
      obtain ⟨first, size, ep, li, en, recs, broken⟩ := m
      simp only at hr0 he0
      subst hr0 he0
      rfl
    rw [e]
    exact h, Grew.refl _ _⟩, ButA.refl _ _⟩
  have HR0 := hide (rest0 m.ep SS)
  have hlpw := h.lt
  have HCELL : Hid (∀ (rs : List (Bs × Nat × Nat)) (x : World), LrS w a dv tv0 ev0 m rs x → sumP rs < l.length → ∃ b o, la = some ⟨b, o, none⟩ ∧ ∃ c cv sa sk, l[sumP rs]? = some (c, cv) ∧ cv = .slice sa c.data.length sk ∧ ∀ y, Below x.heap.size x y → (y.cell? ⟨b, o + sumP rs * 5, none⟩ = some (.int .u64 (c.ep : Int)) ∧ y.cell? ⟨b, o + sumP rs * 5 + 1, none⟩ = some (.int .u64 (c.li : Int)) ∧ y.cell? ⟨b, o + sumP rs * 5 + 2, none⟩ = some (.int .i64 c.part) ∧ y.cell? ⟨b, o + sumP rs * 5 + 3, none⟩ = some (.int .i64 c.of) ∧ y.cell? ⟨b, o + sumP rs * 5 + 4, none⟩ = some cv)) := hide (fun rs x hx hs => by
    have hI := hkeep x hx.b
    obtain ⟨b, o, e, hc, hi2⟩ := hI.at_ (sumP rs) hs
    obtain ⟨sa, sk, e2⟩ := hi2.d.form
    exact ⟨b, o, e, l[sumP rs].1, l[sumP rs].2, sa, sk, List.getElem?_eq_getElem hs, e2, fun y hy => hc y hy⟩)
  have HOK : Hid (∀ (i : Nat) (c : CL) (v : Value), l[i]? = some (c, v) → ∃ n : Nat, c.of = (n : Int) ∧ n ≤ 65535) := hide (fun i c v hi => by
    have h1 : (l.map Prod.fst)[i]? = some c := by rw [List.getElem?_map, hi]; rfl
    rw [hm, List.getElem?_map] at h1
    cases hs : SS[i]? with
    | none => rw [hs] at h1; cases h1
    | some s =>
      rw [hs] at h1
      have h2 : cellO s = c := Option.some.inj h1
      have h3 := cellO_ok s
      rw [h2] at h3
      exact ⟨c.of.toNat, by omega, by omega⟩)
  have hd39 : ∀ x ∈ l, x.1.data.length ≤ 1000 := fun x hx => by
    have h1 : x.1 ∈ l.map Prod.fst := List.mem_map_of_mem hx
    rw [hm] at h1
    obtain ⟨s, _, e⟩ := List.mem_map.1 h1
    have h3 := cellO_ok s
    rw [e] at h3
    omega
  have HRP : Hid (∀ (s least : Nat) (c : CL) (v : Value), l[s]? = some (c, v) → recP m.ep ((SS.drop s).map cellO) least = if c.ep = m.ep ∧ least ≤ c.li ∧ c.of ≤ ((l.length - s : Nat) : Int) then (match joinC (((l.drop s).take c.of.toNat).map Prod.fst) with | none => none | some b => some (b, c.li, c.of.toNat)) else none) := hide (fun s least c v hy => rp_at hm s (c, v) hy)
  have HJOIN : Hid (∀ (rs : List (Bs × Nat × Nat)) (n bx : Nat) (x : World), LrS w a dv tv0 ev0 m rs x → sumP rs + n ≤ l.length → x.cell? ⟨bx, 3, none⟩ = some (.int .i64 (n : Int)) → ∀ (b o : Nat), la = some ⟨b, o, none⟩ → ∃ o' c', (∀ W : World, (Instr.slice 69 (.slice (some ⟨b, o, none⟩) l.length lc) (some (.int .i64 ((sumP rs : Nat) : Int))) (some (.int .i64 ((sumP rs + n : Nat) : Int))) none).run Try.prog W = .ok (.slice (some ⟨b, o', none⟩) n c') W) ∧ Hid (Calls Try.prog 62 #[.slice (some ⟨b, o', none⟩) n c'] x.drew (JoinX bx a (sumP rs) n (((l.drop (sumP rs)).take n).map Prod.fst) x))) := hide (fun rs n bx x hx hs hc b o hla => by
    subst hla
    obtain ⟨o', c', q1, q2⟩ := subL_lh b o l.length lc (sumP rs) (sumP rs + n) (Nat.le_add_right _ _) hs hcap
    rw [Nat.add_sub_cancel_left] at q1
    have hI : IsL x.drew (.slice (some ⟨b, o, none⟩) l.length lc) l := hkeep x.drew hx.b.drew
    have hIp := hI.part (sumP rs) (sumP rs + n) o' c' (Nat.le_add_right _ _) hs q2
    rw [Nat.add_sub_cancel_left] at hIp
    obtain ⟨x3, x5, _⟩ := hx.cells
    refine ⟨o', c', q1, hide ((pjoin_any _ _ x.drew hIp (by rw [List.length_take, List.length_drop]; omega) (fun z hz => hd39 z (List.mem_of_mem_drop (List.mem_of_mem_take hz)))).mono ?_)⟩
    rintro e y ⟨hb, hj⟩
    have hby : Below x.heap.size x y := (Below.refl x.heap.size x).drew.trans hb
    have hS : y.cell? ⟨a, 5, none⟩ = some (.int .i64 ((sumP rs : Nat) : Int)) ∧ y.cell? ⟨bx, 3, none⟩ = some (.int .i64 (n : Int)) := ⟨(hby.cell (cell_lt x5)).trans x5, (hby.cell (cell_lt hc)).trans hc⟩
    rcases hj with ⟨j1, ba, bk, rfl⟩ | ⟨bb, ba, bk, j1, rfl, j2⟩
    · exact ⟨ba, 0, bk, false, rfl, hS, hide ⟨hby, .inl ⟨rfl, j1⟩⟩⟩
    · exact ⟨ba, _, bk, true, rfl, hS, hide ⟨hby, .inr ⟨bb, rfl, j1, j2⟩⟩⟩)
  have HLP := hide hlpw
  have HLN := hide hln
  have HSS := hide hSL
  clear h hr0 he0 hkeep hd39 hcap hlpw hln
  generalize hLL : l.length = L at *
  have HLL := hide hLL
  clear hLL hSL
  generalize hEP : m.ep = ep at *
  have HEP := hide hEP
  clear hEP
  generalize hRD : readL ep SS.length SS 0 = RD at *
  have HRD := hide hRD
  clear hRD
  go_enter Try.func41, Try.ntmps41
  go_wp2
  go_loopg [4] L (fun g vh wr => ∃ (rs : List (Bs × Nat × Nat)) (k least s : Nat), g + s = L ∧ vh = .int .u64 (least : Int) ∧ Hid (s = sumP rs) ∧ Hid (least = lastP 0 rs) ∧ Hid (RestP ep SS rs k) ∧ Hid (LrS w a dv tv0 ev0 m rs wr))
  case atStart => exact ⟨[], SS.length, 0, 0, rfl, rfl, hide rfl, hide rfl, HR0, HS0⟩
  case round =>
    clear HS0 HR0
    obtain ⟨rs, k, least, s, hg, rfl, HSU, HLE, HRS, HST⟩ := hrel
    obtain ⟨x3, x5, hax⟩ := HST.out.cells
    rw [HEP.out] at x3
    rw [← HSU.out] at x5
    by_cases hlt : s < L
    · have hlt2 : (s : Int) < L := by omega
      obtain ⟨b, o, rfl, c, cv, sa, sk, hy, rfl, hcc⟩ := HCELL.out rs wr HST.out (by rw [← HSU.out]; exact hlt)
      rw [← HSU.out] at hy hcc
      obtain ⟨k0, k1, k2, k3, k4⟩ := hcc wr (Below.refl _ _)
      have hrp := HRP.out s least c _ hy
      obtain ⟨n, hn, hn65⟩ := HOK.out s c _ hy
      obtain ⟨cep, cli, pp, oo, dd⟩ := c
      simp only [] at hn hrp k0 k1 k2 k3 k4
      subst hn
      have hx3 : ∀ o, (wr.alloc o).cell? ⟨a, 3, none⟩ = some (.int .u64 (ep : Int)) := fun o => ((below_alloc wr o).cell (cell_lt x3)).trans x3
      have hx5 : ∀ o, (wr.alloc o).cell? ⟨a, 5, none⟩ = some (.int .i64 (s : Int)) := fun o => ((below_alloc wr o).cell (cell_lt x5)).trans x5
      have hbal := fun o => below_alloc wr o
      have HFIN : Hid (∀ y, Below wr.heap.size wr y → recP ep ((SS.drop s).map cellO) least = none → LrS w a dv tv0 ev0 m RD y) := hide (fun y hy hn => by
        have h1 := HRS.out.stop (by rw [← HSU.out, ← HLE.out]; exact hn)
        rw [← HRD.out, h1]
        exact HST.out.below hy)
      clear hcc
      by_cases d1 : cep = ep
      · subst d1
        by_cases d2 : cli < least
        · have d2' : (cli : Int) < (least : Int) := by omega
          have hno : recP cep ((SS.drop s).map cellO) least = none := by rw [hrp, if_neg (fun h => by omega)]
          have HF := hide (fun y hy => HFIN.out y hy hno)
          have HBA := hide hbal
          clear HFIN HCELL HOK HRP HJOIN hrp hy hno hbal HST HRS HRD
          generalize dd.length = dl at *
          go_wp2
          go_quiet (fail)
          go_wp2
          refine bodyPost_ret (results_none rfl _ _ _) rfl ?_
          exact ⟨rfl, HF.out _ (below_drewN (HBA.out _) _)⟩
        · have d2' : ¬ (cli : Int) < (least : Int) := by omega
          by_cases d3 : (L : Int) - (s : Int) < (n : Int)
          · have hno : recP cep ((SS.drop s).map cellO) least = none := by rw [hrp, if_neg (fun h => by have := h.2.2; omega)]
            have HF := hide (fun y hy => HFIN.out y hy hno)
            have HBA := hide hbal
            clear HFIN HCELL HOK HRP HJOIN hrp hy hno hbal HST HRS HRD
            generalize dd.length = dl at *
            go_wp2
            go_quiet (fail)
            go_wp2
            refine bodyPost_ret (results_none rfl _ _ _) rfl ?_
            exact ⟨rfl, HF.out _ (below_drewN (HBA.out _) _)⟩
          · have hrp2 : recP cep ((SS.drop s).map cellO) least = (match joinC (((l.drop s).take n).map Prod.fst) with | none => none | some b => some (b, cli, n)) := by
              rw [hrp, if_pos ⟨rfl, by omega, by omega⟩]
              rfl
            have HRP2 := hide hrp2
            have HBA := hide hbal
            have hsn : s + n ≤ L := by omega
            have HSN := hide hsn
            have d3b : decide ((L : Int) - (s : Int) < (n : Int)) = false := decide_eq_false d3
            have d3c : ((L : Int) - (s : Int) < (n : Int)) = False := eq_false d3
            have d3d : wrap64 ((L : Int) - (s : Int)) = (L : Int) - (s : Int) := by have := HLN.out; unfold wrap64; omega
            have HGL : Hid (∀ n, 0 < n → s + n ≤ L → gk - n + (s + n) = L ∧ gk - n < gk) := hide (fun n h1 h2 => by omega)
            have HAL : Hid (∀ dl, (wr.alloc (.cells #[.int .u64 (cep : Int), .int .u64 (cli : Int), .int .i64 pp, .int .i64 (n : Int), .slice sa dl sk] 90)).cell? ⟨wr.heap.size, 1, none⟩ = some (.int .u64 (cli : Int)) ∧ (wr.alloc (.cells #[.int .u64 (cep : Int), .int .u64 (cli : Int), .int .i64 pp, .int .i64 (n : Int), .slice sa dl sk] 90)).cell? ⟨wr.heap.size, 3, none⟩ = some (.int .i64 (n : Int))) := hide (fun dl => ⟨(World.cell?_alloc_mark wr _ _ _ 1).trans rfl, (World.cell?_alloc_mark wr _ _ _ 3).trans rfl⟩)
            clear HCELL HOK HRP hrp hy hbal hrp2 hsn
            generalize dd.length = dl at *
            go_wp2
            go_quiet (fail)
            go_wp2_with fail
            obtain ⟨X, hX⟩ : ∃ X, X = (wr.alloc (.cells #[.int .u64 (cep : Int), .int .u64 (cli : Int), .int .i64 pp, .int .i64 (n : Int), .slice sa dl sk] 90)).drewN nq := ⟨_, rfl⟩
            rw [← hX]
            have hbX : Below wr.heap.size wr X := by rw [hX]; exact below_drewN (HBA.out _) nq
            have hdr := below_drewN (Below.refl (wr.alloc (.cells #[.int .u64 (cep : Int), .int .u64 (cli : Int), .int .i64 pp, .int .i64 (n : Int), .slice sa dl sk] 90)).heap.size (wr.alloc (.cells #[.int .u64 (cep : Int), .int .u64 (cli : Int), .int .i64 pp, .int .i64 (n : Int), .slice sa dl sk] 90))) nq
            rw [← hX] at hdr
            have z1 := (hdr.cell (cell_lt (HAL.out dl).1)).trans (HAL.out dl).1
            have z3 := (hdr.cell (cell_lt (HAL.out dl).2)).trans (HAL.out dl).2
            have z5 : X.cell? ⟨a, 5, none⟩ = some (.int .i64 (s : Int)) := (hbX.cell (cell_lt x5)).trans x5
            obtain ⟨o', c', hsl, HJN⟩ := HJOIN.out rs n wr.heap.size X (HST.out.below hbX) (by rw [← HSU.out]; exact HSN.out) z3 b o rfl
            rw [← HSU.out] at hsl HJN
            rw [Int.natCast_add] at hsl
            obtain ⟨hadd, hadd2⟩ := read_fit (s := s) (n := n) (by have := HLN.out; omega) hn65
            rw [Int.natCast_add] at hadd hadd2
            have HADD := hide (And.intro hadd hadd2)
            have HSL := hide hsl
            have HBX := hide hbX
            have HZ1 := hide z1
            clear hadd hadd2 hsl hX hdr hbX z1 HAL HBA HJOIN hx3 hx5 x3 x5 k0 k1 k2 k3 k4 hlt2 d2' d3 d2
            refine wp_region_held_drew (S := fun W' => (fun W : World => W.cell? ⟨a, 5, none⟩ = some (.int .i64 (s : Int)) ∧ W.cell? ⟨wr.heap.size, 3, none⟩ = some (.int .i64 (n : Int))) W') (by kernel_rfl) ⟨z5, z3⟩ (fun hHeld => ?_)
            refine wpAnyH_take (i := 0) (v := ?_) rfl (by kernel_rfl) (by kernel_rfl) (by kernel_rfl) (fun _ _ _ h => h) (Or.inl ⟨by kernel_rfl, ?_⟩) hHeld ?_
            rotate_left
            · intro W hSw
              clear hSw
              go_simp <;> with_reducible rfl
            simp only [Act.put, List.getElem_toArray, List.getElem_cons_zero, List.getElem_cons_succ, List.setIfInBounds_toArray, List.set_cons_zero, List.set_cons_succ]
            refine wpAnyH_take (i := 1) (v := ?_) rfl (by kernel_rfl) (by kernel_rfl) (by kernel_rfl) (fun _ _ _ h => h) (Or.inl ⟨by kernel_rfl, ?_⟩) hHeld ?_
            rotate_left
            · intro W hSw
              clear hSw
              go_simp <;> with_reducible rfl
            simp only [Act.put, List.getElem_toArray, List.getElem_cons_zero, List.getElem_cons_succ, List.setIfInBounds_toArray, List.set_cons_zero, List.set_cons_succ]
            refine wpAnyH_take (i := 2) (v := ?_) rfl (by kernel_rfl) (by kernel_rfl) (by kernel_rfl) (fun _ _ _ h => h) (Or.inl ⟨by kernel_rfl, ?_⟩) hHeld ?_
            rotate_left
            · intro W hSw
              clear hSw
              go_simp <;> with_reducible rfl
            simp only [Act.put, List.getElem_toArray, List.getElem_cons_zero, List.getElem_cons_succ, List.setIfInBounds_toArray, List.set_cons_zero, List.set_cons_succ]
            refine wpAnyH_take (i := 3) (v := ?_) rfl (by kernel_rfl) (by kernel_rfl) (by kernel_rfl) (fun _ _ _ h => h) (Or.inl ⟨by kernel_rfl, ?_⟩) hHeld ?_
            rotate_left
            · intro W hSw
              clear hSw
              go_simp <;> with_reducible rfl
            simp only [Act.put, List.getElem_toArray, List.getElem_cons_zero, List.getElem_cons_succ, List.setIfInBounds_toArray, List.set_cons_zero, List.set_cons_succ]
            refine wpAnyH_take (i := 4) (v := ?_) rfl (by kernel_rfl) (by kernel_rfl) (by kernel_rfl) (fun _ _ _ h => h) (Or.inl ⟨by kernel_rfl, ?_⟩) hHeld ?_
            rotate_left
            · intro W hSw
              have hc := hSw.1
              clear hSw
              go_simp <;> with_reducible rfl
            simp only [Act.put, List.getElem_toArray, List.getElem_cons_zero, List.getElem_cons_succ, List.setIfInBounds_toArray, List.set_cons_zero, List.set_cons_succ]
            refine wpAnyH_take (i := 5) (v := ?_) rfl (by kernel_rfl) (by kernel_rfl) (by kernel_rfl) (fun _ _ _ h => h) (Or.inl ⟨by kernel_rfl, ?_⟩) hHeld ?_
            rotate_left
            · intro W hSw
              clear hSw
              go_simp <;> with_reducible rfl
            simp only [Act.put, List.getElem_toArray, List.getElem_cons_zero, List.getElem_cons_succ, List.setIfInBounds_toArray, List.set_cons_zero, List.set_cons_succ]
            refine wpAnyH_take (i := 6) (v := ?_) rfl (by kernel_rfl) (by kernel_rfl) (by kernel_rfl) (fun _ _ _ h => h) (Or.inl ⟨by kernel_rfl, ?_⟩) hHeld ?_
            rotate_left
            · intro W hSw
              clear hSw
              go_simp <;> with_reducible rfl
            simp only [Act.put, List.getElem_toArray, List.getElem_cons_zero, List.getElem_cons_succ, List.setIfInBounds_toArray, List.set_cons_zero, List.set_cons_succ]
            refine wpAnyH_take (i := 7) (v := ?_) rfl (by kernel_rfl) (by kernel_rfl) (by kernel_rfl) (fun _ _ _ h => h) (Or.inl ⟨by kernel_rfl, ?_⟩) hHeld ?_
            rotate_left
            · intro W hSw
              clear hSw
              go_simp <;> with_reducible rfl
            simp only [Act.put, List.getElem_toArray, List.getElem_cons_zero, List.getElem_cons_succ, List.setIfInBounds_toArray, List.set_cons_zero, List.set_cons_succ]
            refine wpAnyH_take (i := 8) (v := ?_) rfl (by kernel_rfl) (by kernel_rfl) (by kernel_rfl) (fun _ _ _ h => h) (Or.inl ⟨by kernel_rfl, ?_⟩) hHeld ?_
            rotate_left
            · intro W hSw
              have hc := hSw.1
              clear hSw
              go_simp <;> with_reducible rfl
            simp only [Act.put, List.getElem_toArray, List.getElem_cons_zero, List.getElem_cons_succ, List.setIfInBounds_toArray, List.set_cons_zero, List.set_cons_succ]
            refine wpAnyH_take (i := 9) (v := ?_) rfl (by kernel_rfl) (by kernel_rfl) (by kernel_rfl) (fun _ _ _ h => h) (Or.inl ⟨by kernel_rfl, ?_⟩) hHeld ?_
            rotate_left
            · intro W hSw
              clear hSw
              go_simp <;> with_reducible rfl
            simp only [Act.put, List.getElem_toArray, List.getElem_cons_zero, List.getElem_cons_succ, List.setIfInBounds_toArray, List.set_cons_zero, List.set_cons_succ]
            refine wpAnyH_take (i := 10) (v := ?_) rfl (by kernel_rfl) (by kernel_rfl) (by kernel_rfl) (fun _ _ _ h => h) (Or.inl ⟨by kernel_rfl, ?_⟩) hHeld ?_
            rotate_left
            · intro W hSw
              have hc := hSw.2
              clear hSw
              go_simp <;> with_reducible rfl
            simp only [Act.put, List.getElem_toArray, List.getElem_cons_zero, List.getElem_cons_succ, List.setIfInBounds_toArray, List.set_cons_zero, List.set_cons_succ]
            refine wpAnyH_take (i := 11) (v := ?_) rfl (by kernel_rfl) (by kernel_rfl) (by kernel_rfl) (fun _ _ _ h => h) (Or.inl ⟨by kernel_rfl, ?_⟩) hHeld ?_
            rotate_left
            · intro W hSw
              have h3 := HADD.out
              clear hSw
              go_simp <;> with_reducible rfl
            simp only [Act.put, List.getElem_toArray, List.getElem_cons_zero, List.getElem_cons_succ, List.setIfInBounds_toArray, List.set_cons_zero, List.set_cons_succ]
            refine wpAnyH_take (i := 12) (v := ?_) rfl (by kernel_rfl) (by kernel_rfl) (by kernel_rfl) (fun _ _ _ h => h) (Or.inl ⟨by kernel_rfl, ?_⟩) hHeld ?_
            rotate_left
            · intro W hSw
              have hs := HSL.out
              clear hSw
              go_simp <;> with_reducible rfl
            simp only [Act.put, List.getElem_toArray, List.getElem_cons_zero, List.getElem_cons_succ, List.setIfInBounds_toArray, List.set_cons_zero, List.set_cons_succ]
            refine wpAnyH_ready (rs := [13]) (by kernel_rfl) (by simp) ?_
            refine AllReadyH.cons rfl (fun K hK => ?_) AllReadyH.nil
            go_simp
            refine HJN.out.mono ?_
            rintro e y ⟨ba, bn, bk, ok, rfl, hS2, HJC⟩
            refine hK.out _ _ ?_ (fun hHeld => ?_)
            · exact hS2
            clear hK K
            try simp only [Act.put, List.getElem_toArray, List.getElem_cons_zero, List.getElem_cons_succ, List.setIfInBounds_toArray, List.set_cons_zero, List.set_cons_succ]
            refine wpAnyH_take (i := 14) (v := ?_) rfl (by kernel_rfl) (by kernel_rfl) (by kernel_rfl) (fun _ _ _ h => h) (Or.inl ⟨by kernel_rfl, ?_⟩) hHeld ?_
            rotate_left
            · intro W hSw
              clear hSw
              go_simp <;> with_reducible rfl
            simp only [Act.put, List.getElem_toArray, List.getElem_cons_zero, List.getElem_cons_succ, List.setIfInBounds_toArray, List.set_cons_zero, List.set_cons_succ]
            refine wpAnyH_take (i := 15) (v := ?_) rfl (by kernel_rfl) (by kernel_rfl) (by kernel_rfl) (fun _ _ _ h => h) (Or.inl ⟨by kernel_rfl, ?_⟩) hHeld ?_
            rotate_left
            · intro W hSw
              clear hSw
              go_simp <;> with_reducible rfl
            simp only [Act.put, List.getElem_toArray, List.getElem_cons_zero, List.getElem_cons_succ, List.setIfInBounds_toArray, List.set_cons_zero, List.set_cons_succ]
            refine wpAnyH_take (i := 16) (v := ?_) rfl (by kernel_rfl) (by kernel_rfl) (by kernel_rfl) (fun _ _ _ h => h) (Or.inl ⟨by kernel_rfl, ?_⟩) hHeld ?_
            rotate_left
            · intro W hSw
              clear hSw
              go_simp <;> with_reducible rfl
            simp only [Act.put, List.getElem_toArray, List.getElem_cons_zero, List.getElem_cons_succ, List.setIfInBounds_toArray, List.set_cons_zero, List.set_cons_succ]
            refine wpAnyH_take (i := 17) (v := ?_) rfl (by kernel_rfl) (by kernel_rfl) (by kernel_rfl) (fun _ _ _ h => h) (Or.inl ⟨by kernel_rfl, ?_⟩) hHeld ?_
            rotate_left
            · intro W hSw
              clear hSw
              go_simp <;> with_reducible rfl
            simp only [Act.put, List.getElem_toArray, List.getElem_cons_zero, List.getElem_cons_succ, List.setIfInBounds_toArray, List.set_cons_zero, List.set_cons_succ]
            refine wpAnyH_take (i := 18) (v := ?_) rfl (by kernel_rfl) (by kernel_rfl) (by kernel_rfl) (fun _ _ _ h => h) (Or.inl ⟨by kernel_rfl, ?_⟩) hHeld ?_
            rotate_left
            · intro W hSw
              clear hSw
              go_simp <;> with_reducible rfl
            simp only [Act.put, List.getElem_toArray, List.getElem_cons_zero, List.getElem_cons_succ, List.setIfInBounds_toArray, List.set_cons_zero, List.set_cons_succ]
            refine wpAnyH_done (by kernel_rfl) ?_ _
            obtain ⟨hby, hj⟩ := HJC.out
            have hbw := HBX.out.trans (hby.mono HBX.out.size)
            have hw1 := (hby.cell (cell_lt HZ1.out)).trans HZ1.out
            have hw3 := hS2.2
            rcases hj with ⟨rfl, hj⟩ | ⟨bb, rfl, hj, hyb⟩
            · have hno : recP cep ((SS.drop s).map cellO) least = none := by rw [HRP2.out, hj]
              have HF := hide (HFIN.out y hbw hno)
              clear HFIN HRP2 HJC HJN HSL HADD hS2 hby hbw hw1 hw3 hno hj HST HRS z3 z5
              go_wp2
              refine bodyPost_ret (results_none rfl _ _ _) rfl ?_
              exact ⟨rfl, HF.out⟩
            · have hsm : recP cep ((SS.drop s).map cellO) least = some (bb, cli, n) := by rw [HRP2.out, hj]
              have hst := HRS.out.step (b := bb) (li := cli) (n := n) (by rw [← HSU.out, ← HLE.out]; exact hsm)
              obtain ⟨g1, g2, g3, g4, g5, g6⟩ := hst
              have HTK := hide (HST.out.take (li := cli) hbw hyb g2 g4 g5 (by rw [← HSU.out]; have := HSN.out; have := HLN.out; omega) (Nat.le_refl _) (cell_lt hw1) hw1)
              have HRS2 := hide g1
              have HSU2 : Hid (s + n = sumP (rs ++ [(bb, cli, n)])) := hide (by rw [sumP_app, ← HSU.out])
              have HLE2 : Hid (cli = lastP 0 (rs ++ [(bb, cli, n)])) := hide (last_app _ _ _ _ _).symm
              have HME := hide (HGL.out n g5 HSN.out)
              clear HFIN HRP2 HJC HJN HSL HADD hS2 hby hbw hsm hj HST HRS z3 z5 g1 g2 g3 g4 g5 g6 hyb HGL HSN
              go_wp2_with fail
              refine HTK.out.mono ?_
              rintro e y2 ⟨rfl, hc1, HLS⟩
              clear HTK hw1 hw3
              go_wp2
              go_roundg (gk - n)
              case rel => exact ⟨rs ++ [(bb, cli, n)], k - 1, cli, s + n, HME.out.1, rfl, HSU2, HLE2, HRS2, HLS⟩
              case measure => exact HME.out.2
      · have d1' : ((cep : Int) == (ep : Int)) = false := by rw [beq_eq_false_iff_ne]; omega
        have d1b : ((cep : Int) != (ep : Int)) = true := by rw [bne, d1']; rfl
        have hno : recP ep ((SS.drop s).map cellO) least = none := by rw [hrp, if_neg (fun h => d1 h.1)]
        have HF := hide (fun y hy => HFIN.out y hy hno)
        have HBA := hide hbal
        clear HFIN HCELL HOK HRP HJOIN hrp hy hno hbal HST HRS HRD
        generalize dd.length = dl at *
        go_wp2
        go_quiet (fail)
        go_wp2
        refine bodyPost_ret (results_none rfl _ _ _) rfl ?_
        exact ⟨rfl, HF.out _ (below_drewN (HBA.out _) _)⟩
    · have hlt2 : ¬ (s : Int) < L := by omega
      have hfin := HRS.out.all (by rw [← HSU.out, HSS.out]; omega)
      rw [HRD.out] at hfin
      have HF := hide HST.out
      rw [← hfin] at HF
      clear HCELL HOK HRP HJOIN HST HRS HRD hfin
      go_wp2
      go_end0
      exact ⟨rfl, HF.out⟩
end Go.Proofs.Ythpepkfodcgbcaa
