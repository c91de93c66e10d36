import Derived.Test.YthpepkfodcgbcaaWq22
import Derived.Test.YthpepkfodcgbcaaWq12
import Derived.Test.YthpepkfodcgbcaaWq25
/- What the program's writeBlock does: cells are laid into a block of the disk. -/
set_option linter.unusedVariables false
set_option linter.unusedSimpArgs false
set_option maxRecDepth 40000
namespace Go.Proofs.Ythpepkfodcgbcaa
open Go.RowKit

theorem setB_flat : ∀ (X : List Bs) (j : Nat) (y : Bs), (∀ x ∈ X, x.length = 64) → j < X.length → y.length = 64 → setB X.flatten (64 * j) y = (X.set j y).flatten
  | [], j, y, _, hj, _ => by simp at hj
  | x :: X, 0, y, h, _, hy => by
    have hx := h x (List.mem_cons_self ..)
    rw [setB_is _ _ _ (by rw [List.flatten_cons, List.length_append]; omega), Nat.mul_zero, List.take_zero, List.nil_append, List.flatten_cons, List.set_cons_zero, List.flatten_cons, Nat.zero_add, hy, ← hx, List.drop_left]
  | x :: X, j + 1, y, h, hj, hy => by
    have hx := h x (List.mem_cons_self ..)
    have h64 : ∀ z ∈ X, z.length = 64 := fun z hz => h z (List.mem_cons_of_mem _ hz)
    have hj2 : j < X.length := by simpa using hj
    have hl := flat_64 X h64
    have ih := setB_flat X j y h64 hj2 hy
    rw [setB_is _ _ _ (by rw [hl]; omega)] at ih
    rw [setB_is _ _ _ (by rw [List.flatten_cons, List.length_append, hl]; omega), List.set_cons_succ, List.flatten_cons, List.flatten_cons, ← ih]
    rw [List.take_append, List.drop_append, List.take_of_length_le (by omega), List.drop_of_length_le (by omega), List.nil_append, List.append_assoc, hx]
    rw [show 64 * (j + 1) - 64 = 64 * j by omega, show 64 * (j + 1) + y.length - 64 = 64 * j + y.length by omega]
theorem newY_cells {B g o n c : Nat} : ∀ (x : Bs) (i : Nat) (w : World) (l : Bs), NewY B w (.slice (some ⟨g, o, none⟩) n c) l → i + x.length ≤ l.length → NewY B (w.setCells g (o + i) (bytesV x)) (.slice (some ⟨g, o, none⟩) n c) (setB l i x)
  | [], i, w, l, h, _ => h
  | v :: r, i, w, l, h, hl => by
    rw [List.length_cons] at hl
    obtain ⟨g', o', e, _, _, _, _, _, h2⟩ := h.at_ i (by omega) v
    injection e with e
    injection e with e1 e2
    subst e1 e2
    exact newY_cells r (i + 1) _ _ h2 (by rw [List.length_set]; omega)
theorem sub_from (g o n c lo : Nat) (h1 : lo < c) (h2 : lo ≤ n) (h3 : n ≤ c) (W : World) : (Instr.slice 43 (.slice (some ⟨g, o, none⟩) n c) (some (.int .i64 (lo : Int))) none none).run Try.prog W = .ok (.slice (some ⟨g, o + lo, none⟩) (n - lo) (c - lo)) W := by
  have h4 : ¬ (n : Int) < lo := by omega
  have h5 : (n : Int) ≤ c := by omega
  have h6 : ¬ c = lo := by omega
  simp [Instr.slice, run_underlying Try.underlying43, Instr.sliceBounds, Instr.sliceBound, asIntOf, Try.sizeOf5, addr_addo, h2, h3, h4, h5, h6]
theorem lo_fit {f i L c : Nat} (h1 : f + L ≤ 4) (h2 : i < L) (hc : (256 : Int) ≤ c) : 64 * (f + i) < c ∧ 64 * (f + i) ≤ 256 ∧ 256 ≤ c ∧ wrap64 ((f : Int) + (i : Int)) = ((f + i : Nat) : Int) ∧ wrap64 (64 * ((f : Int) + (i : Int))) = ((64 * (f + i) : Nat) : Int) := by
  unfold wrap64
  omega
def EncP (w : World) (c : CL) (e : Ending) (w' : World) : Prop := ∃ (g o k : Nat), e = .returned (.tuple #[.slice (some ⟨g, o, none⟩) 64 k, .int .i64 0]) ∧ Hid (w'.rangeAt g o (bytesV (encC c))) ∧ Hid (Below w.heap.size w w')
theorem penc_p (c : CL) (dv : Value) (w : World) (hC : IsC w c dv) (hm : mayC c) : Calls Try.prog 73 #[clA c dv] w (EncP w c) := (penc_any c dv w hC (by have := hm.2.2.2; omega)).mono fun e w' hh => by
  obtain ⟨hb, ⟨h1, _⟩ | ⟨_, a, k, rfl, hy⟩⟩ := hh
  · exact absurd hm h1
  · have hl := enc_len c hm.2.2.2
    rcases hy with ⟨h, _⟩ | ⟨g, o, cap, e, _, hh⟩
    · rw [h] at hl; cases hl
    · injection e with e1 e2 e3
      subst e1 e3
      refine ⟨g, o, k, rfl, hide fun j v hv => ?_, hide hb⟩
      have hj : j < (encC c).length := by have := (List.getElem?_eq_some_iff.1 hv).1; rwa [bytesV_len] at this
      rw [bytesV_get _ j hj] at hv
      injection hv with hv
      rw [← hv]
      exact hh j hj
theorem IsK.spent {B : Nat → Prop} {w : World} {v : Value} {d : DM} (h : IsK B w v d) (ho : d.off = true) : IsK B w v (spendD d).1 := by
  obtain ⟨k, rfl, rfl, h1, h2⟩ := h
  obtain ⟨e1, e2⟩ := sp_lists d
  have e3 : (spendD d).1.off = true := by
    unfold spendD
    rw [ho]
    rfl
  exact ⟨k, rfl, rfl, h1, h2.spend e1 e2 (by rw [h2.off_, ho, e3]) (fun h => by rw [e3] at h; cases h)⟩
/-- The sectors of a block with others laid over them. -/
def blkL (d : DM) (n from_ : Nat) (xs : List Bs) : Bs := (laidW (((nowD d).drop (n * 4)).take 4) from_ xs).flatten
theorem write_off {d : DM} {n : Nat} {b : Bs} (hn : n * 4 + 4 ≤ d.safe.length) (hb : b.length = 256) (ho : d.off = true) : writeD d (n : Int) b = ((spendD d).1, 9) := by
  rw [write_in hn hb, if_neg]
  unfold spendD
  rw [ho]
  simp
theorem now_64' {d : DM} (h : OkD d) : ∀ x ∈ nowD d, x.length = 64 := fun y hy => by
  obtain ⟨i, hi, rfl⟩ := List.mem_iff_getElem.1 hy
  exact poss_64 h (now_poss (List.getElem?_eq_getElem hi))
theorem read_blk {d : DM} {n : Nat} (hn : n * 4 + 4 ≤ d.safe.length) (ho : d.off = false) : readD d (n : Int) = ((((nowD d).drop (n * 4)).take 4).flatten, 0) := by
  have h1 : isD d (n : Int) = true := isD_iff.2 ⟨by omega, by omega⟩
  rw [read_on h1 ho]
  rfl
theorem read_down {d : DM} {n : Nat} (hn : n * 4 + 4 ≤ d.safe.length) (ho : d.off = true) : readD d (n : Int) = ([], 9) := by
  have h1 : isD d (n : Int) = true := isD_iff.2 ⟨by omega, by omega⟩
  unfold readD
  rw [if_pos h1, if_pos ho]
def BlockR (B : Nat → Prop) (w : World) (dv : Value) (r : DM × Int) (e : Ending) (w' : World) : Prop := e = .returned (.int .i64 r.2) ∧ KR IsK B w dv r.1 w'
set_option maxHeartbeats 8000000 in
theorem pblock_any (B : Nat → Prop) (a : Nat) (dp : Addr) (d : DM) (n from_ : Nat) (lv : Value) (l : List (CL × Value)) (w : World) (x0 : w.cell? ⟨a, 0, none⟩ = some (.pointer (some dp))) (hK : IsK B w (.pointer (some dp)) d) (hF : Fit d) (hn : n * 4 + 4 ≤ d.safe.length) (hI : IsL w lv l) (hm : ∀ y ∈ l, mayC y.1) (hfl : from_ + l.length ≤ 4) :
    Calls Try.prog 65 #[.pointer (some ⟨a, 0, none⟩), .int .i64 (n : Int), .int .i64 (from_ : Int), lv] w (BlockR B w (.pointer (some dp)) (writeD d (n : Int) (blkL d n from_ (l.map fun y => encC y.1)))) := by
  have h64 := now_64' hF.ok
  have hnl := now_len d
  have hs := hF.s
  have hx64 : ∀ x ∈ l.map (fun y => encC y.1), x.length = 64 := fun x hx => by
    obtain ⟨y, hy, rfl⟩ := List.mem_map.1 hx
    exact enc_len _ (hm y hy).2.2.2
  have hL4 : (((nowD d).drop (n * 4)).take 4).length = 4 := by rw [List.length_take, List.length_drop]; omega
  have hL64 : ∀ x ∈ ((nowD d).drop (n * 4)).take 4, x.length = 64 := fun x hx => h64 x (List.mem_of_mem_drop (List.mem_of_mem_take hx))
  have hbl : (blkL d n from_ (l.map fun y => encC y.1)).length = 256 := by
    unfold blkL
    rw [flat_64, laidW_len _ _ _ (by rw [hL4, List.length_map]; exact hfl), hL4]
    intro x hx
    unfold laidW at hx
    rcases List.mem_append.1 hx with hx | hx
    · exact hL64 x (List.mem_of_mem_take hx)
    · rcases List.mem_append.1 hx with hx | hx
      · exact hx64 x hx
      · exact hL64 x (List.mem_of_mem_drop hx)
  cases ho : d.off
  · have HR := hide (pread_any B _ d (n : Int) w hK hF)
    rw [read_blk hn ho] at HR
    have HWR : Hid (∀ x g o c, Below w.heap.size w x → NewY w.heap.size x (.slice (some ⟨g, o, none⟩) 256 c) (blkL d n from_ (l.map fun y => encC y.1)) → Calls Try.prog 35 #[.pointer (some dp), .int .i64 (n : Int), .slice (some ⟨g, o, none⟩) 256 c] x (BlockR B w (.pointer (some dp)) (writeD d (n : Int) (blkL d n from_ (l.map fun y => encC y.1))))) := hide (fun x g o c hb hy => (pwrite_any B _ d (n : Int) _ _ x (hK.below hb) hF hy.isY (fun _ k hk hB => by
      have h1 := (hy.blk k hk).1
      have h2 := hK.lt k hB
      omega) (by rw [hbl]; decide)).mono fun e w' hh => ⟨hh.1, hh.2.after hb⟩)
    obtain ⟨la, lc, rfl⟩ := hI.form
    have HA2 : Hid (∀ i y, l[i]? = some y → ∃ b o, la = some ⟨b, o, none⟩ ∧ ∃ ya yc, ∀ x, Below w.heap.size w x → (x.cell? ⟨b, o + i * 5, none⟩ = some (.int .u64 (y.1.ep : Int)) ∧ x.cell? ⟨b, o + i * 5 + 1, none⟩ = some (.int .u64 (y.1.li : Int)) ∧ x.cell? ⟨b, o + i * 5 + 2, none⟩ = some (.int .i64 y.1.part) ∧ x.cell? ⟨b, o + i * 5 + 3, none⟩ = some (.int .i64 y.1.of) ∧ x.cell? ⟨b, o + i * 5 + 4, none⟩ = some (.slice ya y.1.data.length yc)) ∧ IsC x y.1 (.slice ya y.1.data.length yc)) := hide (fun i y hy => by
      obtain ⟨hi, rfl⟩ := List.getElem?_eq_some_iff.1 hy
      obtain ⟨b, o, e, hc, hi2⟩ := hI.at_ i hi
      obtain ⟨ya, yc, hyv⟩ := hi2.d.form
      refine ⟨b, o, e, ya, yc, fun x hb => ⟨?_, ?_⟩⟩
      · rw [← hyv]; exact hc x hb
      · rw [← hyv]; exact hi2.below hb)
    have HM : Hid (∀ (i : Nat) (y : CL × Value), l[i]? = some y → mayC y.1) := hide (fun i y hy => hm y (List.mem_of_getElem? hy))
    have HX : Hid (∀ i, i < l.length → ∃ y, l[i]? = some y) := hide (fun i hi => ⟨_, List.getElem?_eq_getElem hi⟩)
    have HST : Hid (∀ i y, l[i]? = some y → setB (laidW (((nowD d).drop (n * 4)).take 4) from_ ((l.map fun y => encC y.1).take i)).flatten (64 * (from_ + i)) (encC y.1) = (laidW (((nowD d).drop (n * 4)).take 4) from_ ((l.map fun y => encC y.1).take (i + 1))).flatten ∧ (laidW (((nowD d).drop (n * 4)).take 4) from_ ((l.map fun y => encC y.1).take i)).flatten.length = 256 ∧ (encC y.1).length = 64) := hide (fun i y hy => by
      obtain ⟨hi, rfl⟩ := List.getElem?_eq_some_iff.1 hy
      have hin : from_ + (l.map fun y => encC y.1).length ≤ (((nowD d).drop (n * 4)).take 4).length := by rw [hL4, List.length_map]; exact hfl
      have hi2 : i < (l.map fun y => encC y.1).length := by rw [List.length_map]; exact hi
      have hit : ((l.map fun y => encC y.1).take i).length = i := by rw [List.length_take]; omega
      have hl1 : (laidW (((nowD d).drop (n * 4)).take 4) from_ ((l.map fun y => encC y.1).take i)).length = 4 := by rw [laidW_len _ _ _ (by rw [hit]; omega), hL4]
      have hl2 : ∀ x ∈ laidW (((nowD d).drop (n * 4)).take 4) from_ ((l.map fun y => encC y.1).take i), x.length = 64 := fun x hx => by
        unfold laidW at hx
        rcases List.mem_append.1 hx with hx | hx
        · exact hL64 x (List.mem_of_mem_take hx)
        · rcases List.mem_append.1 hx with hx | hx
          · exact hx64 x (List.mem_of_mem_take hx)
          · exact hL64 x (List.mem_of_mem_drop hx)
      have he : (encC l[i].1).length = 64 := enc_len _ (hm _ (List.getElem_mem hi)).2.2.2
      refine ⟨?_, by rw [flat_64 _ hl2, hl1], he⟩
      rw [setB_flat _ _ _ hl2 (by rw [hl1]; omega) he, laid_set _ _ _ hin i hi2, List.getElem_map])
    have HL0 : Hid (laidW (((nowD d).drop (n * 4)).take 4) from_ ((l.map fun y => encC y.1).take 0) = ((nowD d).drop (n * 4)).take 4) := hide (laid_zero _ _)
    have HLE : Hid ((laidW (((nowD d).drop (n * 4)).take 4) from_ ((l.map fun y => encC y.1).take l.length)).flatten = blkL d n from_ (l.map fun y => encC y.1)) := hide (by
      unfold blkL
      rw [show (l.map fun y => encC y.1).take l.length = l.map fun y => encC y.1 from List.take_of_length_le (by rw [List.length_map]; exact Nat.le_refl _)])
    have hblk : (((nowD d).drop (n * 4)).take 4).flatten.length = 256 := by rw [flat_64 _ hL64, hL4]
    have HF0 : Hid (∀ x u, NewY w.heap.size x u (((nowD d).drop (n * 4)).take 4).flatten → ∃ g o c, u = .slice (some ⟨g, o, none⟩) 256 c ∧ (256 : Int) ≤ c ∧ w.heap.size ≤ g) := hide (fun x u hy => by
      rcases hy with ⟨e, _⟩ | ⟨g, o, c, e, h1, _, h3, _⟩
      · rw [e] at hblk; cases hblk
      · rw [hblk] at e h3
        exact ⟨g, o, c, e, by omega, h1⟩)
    have hxa : ∀ x, Below w.heap.size w x → x.cell? ⟨a, 0, none⟩ = some (.pointer (some dp)) := fun x hb => (hb.cell (cell_lt x0)).trans x0
    have HXA := hide hxa
    clear h64 hx64 hL64 hK hF hI hm hxa hblk hbl hL4
    generalize writeD d (n : Int) (blkL d n from_ (l.map fun y => encC y.1)) = RES at *
    generalize blkL d n from_ (l.map fun y => encC y.1) = BL at *
    generalize l.map (fun y => encC y.1) = XS at *
    generalize hLL : l.length = L at *
    generalize ((nowD d).drop (n * 4)).take 4 = S4 at *
    clear hLL
    go_enter Try.func65, Try.ntmps65
    go_wp2_with fail
    refine HR.out.mono ?_
    rintro e w1 ⟨u, rfl, hu, b1⟩
    obtain ⟨g, o, c, rfl, hc, hg⟩ := HF0.out w1 u hu
    have HU0 : Hid (NewY w.heap.size w1 (.slice (some ⟨g, o, none⟩) 256 c) (laidW S4 from_ (XS.take 0)).flatten) := hide (by rw [HL0.out]; exact hu)
    have HB0 := hide b1
    clear HR HF0 hu b1 HL0
    go_wp2
    go_loopw [29] (fun vi wr => ∃ i : Nat, vi = .int .i64 (i : Int) ∧ i ≤ L ∧ Hid (NewY w.heap.size wr (.slice (some ⟨g, o, none⟩) 256 c) (laidW S4 from_ (XS.take i)).flatten) ∧ Hid (Below w.heap.size w wr)) (fun vi _ => L - (intOf vi).toNat)
    case atStart => exact ⟨0, rfl, Nat.zero_le _, HU0, HB0⟩
    case round =>
      clear HU0 HB0
      obtain ⟨i, rfl, hi, HU, HB⟩ := hrel
      by_cases hlt : i < L
      · have hlt2 : (i : Int) < L := by omega
        obtain ⟨y, hy⟩ := HX.out i hlt
        obtain ⟨b, bo, rfl, ya, yc, hcc⟩ := HA2.out i y hy
        obtain ⟨⟨k0, k1, k2, k3, k4⟩, _⟩ := hcc wr HB.out
        obtain ⟨hst, hl256, he64⟩ := HST.out i y hy
        have hmay := HM.out i y hy
        obtain ⟨yp, yv⟩ := y
        obtain ⟨ep, li, pp, oo, dd⟩ := yp
        simp only [] at *
        have hal := below_alloc wr (.cells #[.int .u64 (ep : Int), .int .u64 (li : Int), .int .i64 pp, .int .i64 oo, .slice ya dd.length yc] 90)
        have HENC := hide (penc_p ⟨ep, li, pp, oo, dd⟩ (.slice ya dd.length yc) _ (hcc _ (HB.out.trans (hal.mono HB.out.size))).2 hmay)
        have HNX : Hid (∀ x eg eo ek, Below (wr.alloc (.cells #[.int .u64 (ep : Int), .int .u64 (li : Int), .int .i64 pp, .int .i64 oo, .slice ya dd.length yc] 90)).heap.size (wr.alloc (.cells #[.int .u64 (ep : Int), .int .u64 (li : Int), .int .i64 pp, .int .i64 oo, .slice ya dd.length yc] 90)) x → x.rangeAt eg eo (bytesV (encC ⟨ep, li, pp, oo, dd⟩)) → ∃ x', (Builtin.copy_ #[43, 43] 3 #[.slice (some ⟨g, o + 64 * (from_ + i), none⟩) (256 - 64 * (from_ + i)) (c - 64 * (from_ + i)), .slice (some ⟨eg, eo, none⟩) 64 ek]).run Try.prog x = .ok (.int .i64 64) x' ∧ Hid (NewY w.heap.size x' (.slice (some ⟨g, o, none⟩) 256 c) (laidW S4 from_ (XS.take (i + 1))).flatten) ∧ Hid (Below w.heap.size w x')) := hide (fun x eg eo ek hb hr => by
          have hbx : Below wr.heap.size wr x := hal.trans (hb.mono hal.size)
          have hY := HU.out.below hbx
          have hth : x.there g (o + 64 * (from_ + i)) (encC ⟨ep, li, pp, oo, dd⟩).length := fun j hj => by
            rcases hY with ⟨e, _⟩ | ⟨g', o', c', e, _, _, _, hh, hf⟩
            · rw [e] at hl256; cases hl256
            · injection e with e1 e2 e3
              injection e1 with e1
              injection e1 with e1 e4
              subst e1 e4
              rw [Nat.add_assoc]
              exact ⟨by rw [hh (64 * (from_ + i) + j) (by omega)]; rfl, hf _ (by omega)⟩
          have hcp := copy_bytes_run x g (o + 64 * (from_ + i)) (256 - 64 * (from_ + i)) (c - 64 * (from_ + i)) eg eo 64 ek (encC ⟨ep, li, pp, oo, dd⟩) (by rw [he64]; show 64 = min 64 _; omega) hr hth
          rw [he64] at hcp
          refine ⟨_, hcp, hide ?_, hide ?_⟩
          · rw [← hst]
            exact newY_cells _ _ _ _ hY (by rw [hl256, he64]; omega)
          · have h0 := HB.out.trans (hbx.mono HB.out.size)
            refine ⟨?_, ?_, ?_, ?_, fun k hk => ?_⟩
            · exact (cells_outK g _ _ x).1.trans h0.os
            · exact (cells_outK g _ _ x).2.1.trans h0.tape
            · exact (cells_outK g _ _ x).2.2.trans h0.output
            · rw [cells_sizeK]; exact h0.size
            · rw [heap_cells_other g _ _ _ k (by omega)]
              exact h0.block k hk)
        obtain ⟨q1, q2, q3, hw1, hw2⟩ := lo_fit hfl hlt hc
        have hsl := sub_from g o 256 c (64 * (from_ + i)) q1 q2 q3
        clear q1 q2 q3
        have HSL := hide hsl
        clear hcc hy HU HB hal hst hl256 he64 hmay HA2 HM HX HST HWR HXA HLE hsl
        generalize dd.length = yl at *
        go_wp2_with fail
        refine HENC.out.mono ?_
        rintro e x ⟨eg, eo, ek, rfl, hr, hb⟩
        obtain ⟨x', hcp, HU2, HB2⟩ := HNX.out x eg eo ek hb.out hr.out
        have HCP := hide hcp
        have hsl := HSL.out
        clear HENC HNX hr hb hcp HSL
        go_wp2_with fail
        rw [HCP.out]
        simp only [Result.andThen_ok, Oper.upon_value]
        go_wp2
        go_roundw
        case rel => exact ⟨i + 1, by go_num, by omega, HU2, HB2⟩
        case measure => simp [intOf]; omega
      · have hlt2 : ¬ (i : Int) < L := by omega
        obtain rfl : i = L := by omega
        have hu := HU.out
        rw [HLE.out] at hu
        have HW := hide (HWR.out wr g o c HB.out hu)
        have x0' := HXA.out wr HB.out
        clear HU HB hu HWR HXA HLE HA2 HM HX HST
        go_wp2_with fail
        refine HW.out.mono ?_
        rintro e w9 ⟨rfl, hk⟩
        go_wp2
        go_ret
        exact ⟨rfl, hk⟩
  · have HR := hide (pread_any B _ d (n : Int) w hK hF)
    rw [read_down hn ho] at HR
    rw [write_off hn hbl ho]
    have HF9 : Hid (∀ x, Below w.heap.size w x → BlockR B w (.pointer (some dp)) ((spendD d).1, 9) (.returned (.int .i64 9)) x) := hide (fun x hb => ⟨rfl, KR.of (hK.spent ho) hb⟩)
    obtain ⟨la, lc, rfl⟩ := hI.form
    clear h64 hx64 hL64 hK hF hI hm hbl hL4
    generalize l.length = L at *
    go_enter Try.func65, Try.ntmps65
    go_wp2_with fail
    refine HR.out.mono ?_
    rintro e w1 ⟨u, rfl, hu, b1⟩
    have HF := hide (HF9.out w1 b1)
    clear HR HF9 b1
    rcases hu with ⟨_, rfl⟩ | ⟨g, o, c, rfl, _⟩
    all_goals
      go_wp2
      go_ret
      exact HF.out
end Go.Proofs.Ythpepkfodcgbcaa
