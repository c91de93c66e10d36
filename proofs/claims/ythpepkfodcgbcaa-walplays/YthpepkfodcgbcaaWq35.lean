import Derived.Test.YthpepkfodcgbcaaWq22
import Derived.Test.YthpepkfodcgbcaaWq25
import Derived.Test.YthpepkfodcgbcaaWq30
import Derived.Test.YthpepkfodcgbcaaWq34
import Derived.Test.YthpepkfodcgbcaaWq03
import Derived.Test.YthpepkfodcgbcaaWq16
/- What the program's Records answers. -/
set_option linter.unusedVariables false
set_option linter.unusedSimpArgs false
set_option maxRecDepth 40000
namespace Go.Proofs.Ythpepkfodcgbcaa
open Go.RowKit

def CloneN (w : World) (b : Bs) (e : Ending) (w' : World) : Prop := ∃ a c, e = .returned (.slice a b.length c) ∧ NewY w.heap.size w' (.slice a b.length c) b ∧ Below w.heap.size w w'
set_option maxHeartbeats 4000000 in
theorem pclone_new (bv : Value) (b : Bs) (w : World) (hY : IsY w bv b) (hl : b.length ≤ 1000000) : Calls Try.prog 55 #[bv] w (CloneN w b) := by
  obtain ⟨ba, bc, rfl⟩ := hY.form
  cases ba with
  | none =>
    rcases hY with ⟨rfl, _⟩ | ⟨bb, bo, cap, e, _⟩
    · have HF : Hid (CloneN w [] (Ending.returned (.slice none 0 0)) w) := hide ⟨none, 0, rfl, .inl ⟨rfl, rfl⟩, Below.refl _ _⟩
      have hq : ∀ W, (binOp BinOp.eql 43 (.slice none 0 bc) (.slice none 0 0)).run Try.prog W = .ok (.bool true) W := fun W => Lib.run_eql_slice_nil W 43 5 none 0 bc 0 0 Try.underlying43
      go_enter Try.func55, Try.ntmps55
      go_wp2
      go_ret
      exact HF.out
    · cases e
  | some ad =>
    obtain ⟨a, c, w1, hr, ho, hb⟩ := copyC w _ b hY hl
    have ho2 : w1.ownsRow w.heap.size 5 1 (.slice a b.length c) b.length (bytesV b) := ho
    have HF : Hid (CloneN w b (Ending.returned (.slice a b.length c)) w1) := hide ⟨a, c, rfl, owns_newY ho2, hb⟩
    have HRUN := hide hr
    clear hr ho hb hY hl ho2
    generalize b.length = m at *
    have hq : ∀ W, (binOp BinOp.eql 43 (.slice (some ad) m bc) (.slice none 0 0)).run Try.prog W = .ok (.bool false) W := fun W => Lib.run_eql_slice_nil W 43 5 (some ad) m bc 0 0 Try.underlying43
    go_enter Try.func55, Try.ntmps55
    go_wp2_with (at_builtin; refine wpList_append_run rfl _ _ 43 rfl _ _ _ _ rfl rfl HRUN.out ?_)
    go_ret
    exact HF.out
def offR (recs : List Bs) (k : Nat) : Nat := (recs.take k).flatten.length
theorem off_succ (recs : List Bs) (k : Nat) (r : Bs) (h : recs[k]? = some r) : offR recs (k + 1) = offR recs k + r.length := by
  obtain ⟨hk, rfl⟩ := List.getElem?_eq_some_iff.1 h
  unfold offR
  rw [List.take_succ_eq_append_getElem hk, List.flatten_append, List.length_append]
  simp
theorem off_le : ∀ (recs : List Bs) (k : Nat), offR recs k ≤ recs.flatten.length := by
  intro recs k
  unfold offR
  conv => rhs; rw [← List.take_append_drop k recs, List.flatten_append, List.length_append]
  omega
theorem off_get (recs : List Bs) (k : Nat) (r : Bs) (h : recs[k]? = some r) (j : Nat) (hj : j < r.length) : recs.flatten[offR recs k + j]? = r[j]? := by
  obtain ⟨hk, rfl⟩ := List.getElem?_eq_some_iff.1 h
  have e : recs = recs.take k ++ (recs[k] :: recs.drop (k + 1)) := by rw [List.getElem_cons_drop, List.take_append_drop]
  have e2 : recs.flatten = (recs.take k).flatten ++ (recs[k] ++ (recs.drop (k + 1)).flatten) := by
    conv => lhs; rw [e]
    rw [List.flatten_append, List.flatten_cons]
  rw [e2, List.getElem?_append_right (by unfold offR; omega)]
  unfold offR
  rw [Nat.add_sub_cancel_left, List.getElem?_append_left hj]
/-- A record within the text. -/
abbrev slR (recs : List Bs) (tg to : Nat) (k : Nat) : Value := .slice (some ⟨tg, to + offR recs k, none⟩) (recs.getD k []).length (recs.getD k []).length
def rowR (recs : List Bs) (tg to : Nat) (i : Nat) : List Value := (List.range i).map (slR recs tg to) ++ List.replicate (recs.length - i) (.slice none 0 0)
theorem rowR_len (recs : List Bs) (tg to i : Nat) (h : i ≤ recs.length) : (rowR recs tg to i).length = recs.length := by
  unfold rowR
  rw [List.length_append, List.length_map, List.length_range, List.length_replicate]
  omega
theorem rowR_set (recs : List Bs) (tg to i : Nat) (h : i < recs.length) : (rowR recs tg to i).set i (slR recs tg to i) = rowR recs tg to (i + 1) := by
  unfold rowR
  have hl : ((List.range i).map (slR recs tg to)).length = i := by rw [List.length_map, List.length_range]
  rw [List.set_append_right _ _ (by omega), hl, Nat.sub_self, show recs.length - i = (recs.length - (i + 1)) + 1 by omega, List.replicate_succ, List.set_cons_zero, List.range_succ, List.map_append, List.append_assoc]
  rfl
theorem make_rowsR (w : World) (recs : List Bs) (tg to : Nat) (hn : recs.length ≤ 1000000) : ∃ w1, (Instr.makeSlice 38 (.int .i64 (recs.length : Int)) (.int .i64 (recs.length : Int))).run Try.prog w = .ok (.slice (some ⟨w.heap.size, 0, none⟩) recs.length recs.length) w1 ∧ w1.heap[w.heap.size]? = some (.cells (rowR recs tg to 0).toArray 43 (0, 0)) ∧ Below w.heap.size w w1 := by
  have hr := run_make (P := Try.prog) w 38 43 Try.t43 (.slice none 0 0) Try.underlying38 (by kernel_rfl) (by kernel_rfl) .i64 .i64 recs.length recs.length (by omega) (by omega) (by rw [show Try.t43.bytes = 24 from by kernel_rfl]; omega) (by omega)
  simp only [Int.toNat_natCast] at hr
  refine ⟨_, hr, ?_, below_alloc w _⟩
  have e : madeCells (Value.slice none 0 0).cells (recs.length * Try.t43.size) = (rowR recs tg to 0).toArray := by
    rw [show Try.t43.size = 1 from by kernel_rfl, Nat.mul_one]
    apply Array.ext'
    unfold rowR
    apply List.ext_getElem?
    intro j
    have hc : (Value.slice none 0 0).cells = #[Value.slice none 0 0] := rfl
    rw [hc]
    by_cases hj : j < recs.length
    · have e1 : (madeCells #[Value.slice none 0 0] recs.length).toList[j]? = #[Value.slice none 0 0][j % 1]? := by
        simp [madeCells, hj, Nat.mod_one]
      rw [e1, Nat.mod_one]
      simp [List.getElem?_replicate, hj]
    · rw [List.getElem?_eq_none (by rw [Array.length_toList, size_madeCells]; omega)]
      simp
      omega
  rw [e]
  exact alloc_newC w _
theorem sub3 (g o n c i j : Nat) (h1 : i < j) (h2 : j ≤ n) (h3 : n ≤ c) (W : World) : (Instr.slice 43 (.slice (some ⟨g, o, none⟩) n c) (some (.int .i64 (i : Int))) (some (.int .i64 (j : Int))) (some (.int .i64 (j : Int)))).run Try.prog W = .ok (.slice (some ⟨g, o + i, none⟩) (j - i) (j - i)) W := by
  have h4 : ¬ (j : Int) < i := by omega
  have h5 : (j : Int) ≤ c := by omega
  have h6 : ¬ j = i := by omega
  have h7 : j ≤ c := by omega
  have h8 : i ≤ j := by omega
  simp [Instr.slice, run_underlying Try.underlying43, Instr.sliceBounds, Instr.sliceBound, asIntOf, Try.sizeOf5, addr_addo, h4, h5, h6, h7, h8]
def RecsX (w : World) (recs : List Bs) (e : Ending) (w' : World) : Prop := ∃ a c, e = .returned (.slice a recs.length c) ∧ NewRs w.heap.size w' (.slice a recs.length c) recs ∧ Below w.heap.size w w'
/-- What has been laid. -/
theorem recs_done {w w2 x : World} {recs : List Bs} {tg to tn tc g : Nat} (hb2 : Below w.heap.size w w2) (hT : recs ≠ [] → NewY w.heap.size w2 (.slice (some ⟨tg, to, none⟩) tn tc) recs.flatten) (hg : w.heap.size ≤ g) (hgt : g ≠ tg) (hR : x.heap[g]? = some (.cells (rowR recs tg to recs.length).toArray 43 (0, 0))) (hB : ButG g w2 x) (hne : ∀ r ∈ recs, r ≠ []) : RecsX w recs (.returned (.slice (some ⟨g, 0, none⟩) recs.length recs.length)) x := by
  have hbx : Below w.heap.size w x := hb2.trans (hB.below hg)
  refine ⟨_, _, rfl, ⟨(List.range recs.length).map fun k => (recs.getD k [], slR recs tg to k), ?_, ?_, ?_⟩, hbx⟩
  · apply List.ext_getElem?
    intro j
    rw [List.map_map]
    by_cases hj : j < recs.length
    · simp [hj]
    · rw [List.getElem?_eq_none (by rw [List.length_map, List.length_range]; omega), List.getElem?_eq_none (by omega)]
  · refine .inr ⟨g, 0, recs.length, by rw [List.length_map, List.length_range], hg, (Array.getElem?_eq_some_iff.1 hR).1, fun j hj => ?_, fun y hy e => ?_⟩
    · rw [List.length_map, List.length_range] at hj
      rw [cell_of_row x g _ _ _ _ hR, Nat.zero_add, List.getElem?_toArray]
      unfold rowR
      rw [List.getElem?_append_left (by rw [List.length_map, List.length_range]; exact hj), List.getElem?_map, List.getElem?_range hj, List.getElem_map, List.getElem_range]
      rfl
    · obtain ⟨k, _, rfl⟩ := List.mem_map.1 hy
      exact hgt (Option.some.inj e).symm
  · intro y hy
    obtain ⟨k, hk, rfl⟩ := List.mem_map.1 hy
    have hk2 := List.mem_range.1 hk
    have hr : recs[k]? = some recs[k] := List.getElem?_eq_getElem hk2
    have hd : recs.getD k [] = recs[k] := by simp [hk2]
    have hT2 := hT (fun e => by rw [e] at hk2; simp at hk2)
    rcases hT2 with ⟨e, _⟩ | ⟨g', o', c', e, h1, h2, h3, h4, h5⟩
    · have h0 := off_get recs k _ hr 0 (List.length_pos_iff.2 (hne _ (List.getElem_mem hk2)))
      rw [e] at h0
      have h9 : recs[k].length ≠ 0 := fun e9 => hne _ (List.getElem_mem hk2) (List.eq_nil_of_length_eq_zero e9)
      rw [List.getElem?_nil, List.getElem?_eq_getElem (by omega)] at h0
      cases h0
    · injection e with e1 e2 e3
      injection e1 with e1
      injection e1 with e1 e4
      subst e1 e4
      have hoff : offR recs k + recs[k].length ≤ recs.flatten.length := by rw [← off_succ recs k _ hr]; exact off_le _ _
      show NewY w.heap.size x (slR recs tg to k) (recs.getD k [])
      unfold slR
      rw [hd]
      refine .inr ⟨tg, to + offR recs k, recs[k].length, rfl, h1, by rw [hB.size]; exact h2, Nat.le_refl _, fun j hj => ?_, fun j hj => ?_⟩
      · have h6 := h4 (offR recs k + j) (by omega)
        rw [← Nat.add_assoc] at h6
        rw [cell_blk (hB.block tg (fun e => hgt e.symm)), h6]
        congr 3
        have h7 := off_get recs k _ hr j hj
        rw [List.getElem?_eq_getElem (by omega), List.getElem?_eq_getElem hj] at h7
        exact congrArg UInt8.toNat (Option.some.inj h7)
      · rw [frozen_blk (hB.block tg (fun e => hgt e.symm)), Nat.add_assoc]
        exact h5 (offR recs k + j) (by omega)
set_option maxHeartbeats 8000000 in
theorem precords_any (A : Nat → Prop) (dv lv : Value) (m : LM) (w : World) (h : IsLog A w dv lv m) (hr : m.recs.length ≤ 100000) :
    Calls Try.prog 24 #[lv] w fun e w' => ∃ a c, e = .returned (.slice a m.recs.length c) ∧ NewRs w.heap.size w' (.slice a m.recs.length c) m.recs ∧ Below w.heap.size w w' := by
  obtain ⟨a, tv, ev, rfl, rfl, hL⟩ := h
  show Calls Try.prog 24 #[_] w (RecsX w m.recs)
  have hfl := hL.fl
  have hen := hL.en
  have hty : IsY w tv m.recs.flatten := by
    have h1 : w.ownsRow 0 5 1 tv m.recs.flatten.length (bytesV m.recs.flatten) := hL.t.o
    exact owns_isY h1
  have HCL := hide (pclone_new tv m.recs.flatten w hty (by omega))
  have HBX := hide (fun x (hx : Below w.heap.size w x) => lp_cells (hL.below hx).box)
  obtain ⟨x0, x1, x2, x3, x4, x5, x6, x7, x8, xf⟩ := lp_cells hL.box
  obtain ⟨ta, tc, htv⟩ := hL.t.form
  obtain ⟨ea, ec, hev⟩ := hL.e.form
  have HEC : Hid (∀ i, i < m.recs.length → ∃ eg, ea = some ⟨eg, 0, none⟩ ∧ ∀ x, Below w.heap.size w x → x.cell? ⟨eg, i, none⟩ = some (.int .i64 ((offR m.recs (i + 1) : Nat) : Int))) := hide (fun i hi => by
    have h1 := hL.e.o
    rw [hev] at h1
    rcases h1.2 with ⟨e, h0⟩ | ⟨g, cap, cur, e, h2, h3, h4⟩
    · omega
    · injection e with e1
      refine ⟨g, e1, fun x hx => ?_⟩
      have h5 : w.ownsRow 0 3 1 (.slice (some ⟨g, 0, none⟩) m.recs.length ec) m.recs.length (endsV m.recs) := by rw [← e1]; exact h1
      have h6 := h5.cells (g := g) rfl i _ (endsV_get m.recs i hi)
      rw [addr_add] at h6
      exact (hx.cell (cell_lt h6)).trans h6)
  have hne := hL.ne
  have HMK := hide (fun x tg to => make_rowsR x m.recs tg to (by omega))
  have HDN := hide (fun (w2 x : World) (tg to tn tc g : Nat) (h1 : Below w.heap.size w w2) h2 (h3 : w.heap.size ≤ g) h4 h5 (h6 : ButG g w2 x) => recs_done (recs := m.recs) (tg := tg) (to := to) (tn := tn) (tc := tc) h1 h2 h3 h4 h5 h6 hne)
  have HSTP : Hid (∀ i, i < m.recs.length → offR m.recs i < offR m.recs (i + 1) ∧ offR m.recs (i + 1) ≤ m.recs.flatten.length ∧ (m.recs.getD i []).length = offR m.recs (i + 1) - offR m.recs i) := hide (fun i hi => by
    have h1 := off_succ m.recs i _ (List.getElem?_eq_getElem hi)
    have h2 : m.recs[i].length ≠ 0 := fun e9 => hne _ (List.getElem_mem hi) (List.eq_nil_of_length_eq_zero e9)
    have h3 : m.recs.getD i [] = m.recs[i] := by simp [hi]
    exact ⟨by omega, off_le _ _, by rw [h3]; omega⟩)
  have HRS := hide (fun tg to i h => rowR_set m.recs tg to i h)
  have HRL := hide (fun tg to i h => rowR_len m.recs tg to i h)
  have HO0 : Hid (offR m.recs 0 = 0) := hide rfl
  rw [htv] at x6 HBX HCL
  rw [hev] at x7 HBX
  have HNE : Hid (0 < m.recs.length → m.recs.flatten ≠ []) := hide (fun h0 e => by
    have h1 := off_get m.recs 0 _ (List.getElem?_eq_getElem h0) 0 (List.length_pos_iff.2 (hne _ (List.getElem_mem h0)))
    have h9 : m.recs[0].length ≠ 0 := fun e9 => hne _ (List.getElem_mem h0) (List.eq_nil_of_length_eq_zero e9)
    rw [e, List.getElem?_nil, List.getElem?_eq_getElem (by omega)] at h1
    cases h1)
  clear hL hty hfl hen x0 x1 x2 x3 x4 x5 x8 hne htv hev
  generalize m.recs = recs at *
  generalize hN : recs.length = N at *
  generalize hF : recs.flatten.length = F at *
  have HN := hide hN
  have HFL := hide hF
  clear hN hF
  go_enter Try.func24, Try.ntmps24
  go_wp2_with fail
  refine HCL.out.mono ?_
  rintro e w1 ⟨ua, uc, rfl, hT, hb1⟩
  rw [HFL.out] at hT ⊢
  have HTX : Hid (∃ tg to, tg ≠ w1.heap.size ∧ (0 < N → ua = some ⟨tg, to, none⟩ ∧ F ≤ uc)) := hide (by
    by_cases h0 : 0 < N
    · rcases hT with ⟨e, _⟩ | ⟨tg, to, c, e, h1, h2, h3, _⟩
      · exact absurd e (HNE.out h0)
      · injection e with e1 e2 e3
        rw [HFL.out] at h3
        exact ⟨tg, to, by omega, fun _ => ⟨e1, by omega⟩⟩
    · exact ⟨w1.heap.size + 1, 0, by omega, fun h => absurd h h0⟩)
  obtain ⟨tg, to, htg, hua⟩ := HTX.out
  obtain ⟨w2, hmk, hrow, hb2⟩ := HMK.out w1 tg to
  have HB2 := hide (hb1.trans (hb2.mono hb1.size))
  have HG1 := hide hb1.size
  have HR0 := hide hrow
  have HUA := hide hua
  have HGT := hide (Ne.symm htg)
  have HTY : Hid (recs ≠ [] → NewY w.heap.size w2 (.slice (some ⟨tg, to, none⟩) F uc) recs.flatten) := hide (fun h => by
    have h0 : 0 < N := by rw [← HN.out]; exact List.length_pos_iff.2 h
    have h1 := hT.below hb2
    rw [(hua h0).1] at h1
    exact h1)
  obtain ⟨_, _, _, _, _, _, _, z7, _, _⟩ := HBX.out w1 hb1
  obtain ⟨_, _, _, _, _, _, _, z72, _, _⟩ := HBX.out w2 HB2.out
  have HB0 := hide (ButG.refl w1.heap.size w2)
  clear HTX HMK HCL HNE hT hb1 hrow hb2 htg hua HBX
  generalize w1.heap.size = g at *
  go_wp2
  go_loopw [5, 26] (fun vf vi wr => ∃ i : Nat, vi = .int .i64 (i : Int) ∧ i ≤ N ∧ vf = .int .i64 ((offR recs i : Nat) : Int) ∧ Hid (wr.heap[g]? = some (.cells (rowR recs tg to i).toArray 43 (0, 0))) ∧ Hid (ButG g w2 wr)) (fun _ vi _ => N - (intOf vi).toNat)
  case atStart => exact ⟨0, rfl, Nat.zero_le _, by rw [HO0.out]; rfl, HR0, HB0⟩
  case round =>
    clear HR0 HB0 HO0 hmk
    obtain ⟨i, rfl, hi, rfl, HR, HB⟩ := hrel
    by_cases hlt : i < N
    · have hlt2 : (i : Int) < N := by omega
      obtain ⟨s1, s2, s3⟩ := HSTP.out i hlt
      obtain ⟨eg, rfl, hec⟩ := HEC.out i hlt
      obtain ⟨rfl, huc⟩ := HUA.out (by omega)
      have hbw : Below w.heap.size w wr := HB2.out.trans (HB.out.below HG1.out)
      have hcell := hec wr hbw
      have hsl := sub3 tg to F uc (offR recs i) (offR recs (i + 1)) s1 s2 huc
      have hlen := HRL.out tg to i (by omega)
      have hk : wr.cell? ⟨g, i, none⟩ = some ((rowR recs tg to i)[i]'(by omega)) := by
        rw [cell_of_row wr g _ _ _ _ HR.out, List.getElem?_toArray, List.getElem?_eq_getElem (by omega)]
      have hf : wr.frozen? ⟨g, i, none⟩ = false := by
        have := HR.out
        simp [World.frozen?, this]
      have hset := heap_setC HR.out i (slR recs tg to i)
      rw [HRS.out tg to i hlt] at hset
      unfold slR at hset
      rw [s3] at hset
      have HR2 := hide hset
      have HB3 := hide (HB.out.setCell i (.slice (some ⟨tg, to + offR recs i, none⟩) (offR recs (i + 1) - offR recs i) (offR recs (i + 1) - offR recs i)))
      generalize (rowR recs tg to i)[i]'(by omega) = old at *
      have HQ : Hid (offR recs (i + 1) = offR recs (i + 1)) := hide rfl
      clear hlen hset hbw hec HR HB s3 HSTP HEC HUA HRS HRL HDN HTY HB2 HG1 huc HQ
      generalize hoi : offR recs i = p at *
      generalize hoj : offR recs (i + 1) = q at *
      have HOJ := hide hoj
      clear hoi hoj
      go_wp2
      go_roundw
      case rel => exact ⟨i + 1, by go_num, by omega, by rw [HOJ.out], HR2, HB3⟩
      case measure => simp [intOf]; omega
    · have hlt2 : ¬ (i : Int) < N := by omega
      obtain rfl : i = N := by omega
      have hf := HDN.out w2 wr tg to F uc g HB2.out HTY.out HG1.out HGT.out HR.out HB.out
      have HF := hide hf
      clear hf HDN HTY HR HB HB2 HG1 HSTP HEC HUA HRS HRL
      generalize offR recs i = p at *
      go_wp2
      go_ret
      exact HF.out
end Go.Proofs.Ythpepkfodcgbcaa
/- What the program's log does: all of it. -/
/- The live question is answered as fixed. -/
set_option linter.unusedVariables false
set_option linter.unusedSimpArgs false
set_option maxRecDepth 40000
namespace Go.Proofs.Ythpepkfodcgbcaa
open Go.RowKit

/-- A disk that lies in blocks from n on, and what was below n is as it was. -/
structure Liv (w : World) (v : Value) (d : DM) (x : World) : Prop where
  k : ∃ A, IsK A x v d ∧ ∀ k, A k → w.heap.size ≤ k
  b : Below w.heap.size w x
theorem Liv.below {w x y : World} {v : Value} {d : DM} (h : Liv w v d x) (hb : Below x.heap.size x y) : Liv w v d y := by
  obtain ⟨A, h1, h2⟩ := h.k
  exact ⟨⟨A, h1.below hb, h2⟩, h.b.trans (hb.mono h.b.size)⟩
theorem Liv.kr {w x y : World} {v : Value} {d' : DM} {A : Nat → Prop} (hA : ∀ k, A k → w.heap.size ≤ k) (hb : Below w.heap.size w x) (h : KR IsK A x v d' y) : Liv w v d' y := by
  obtain ⟨A', h1, h2, h3⟩ := h
  exact ⟨⟨A', h1, fun k hk => (h2 k hk).elim (hA k) (fun h => Nat.le_trans hb.size h)⟩, hb.trans (h3.below hA hb.size)⟩
theorem isY_one (w : World) (x : UInt8) : IsY (w.alloc (.cells #[.int .u8 (x.toNat : Int)] 5)) (.slice (some ⟨w.heap.size, 0, none⟩) 1 1) [x] := .inr ⟨_, _, _, rfl, Nat.le_refl _, fun j hj => by
  obtain rfl : j = 0 := by simpa using hj
  simp [go_sem]⟩
theorem isF_two (w : World) (a b : Bool) : IsF (w.alloc (.cells #[.bool a, .bool b] 4)) (.slice (some ⟨w.heap.size, 0, none⟩) 2 2) [a, b] := .inr ⟨_, _, _, rfl, fun j hj => by
  have : j = 0 ∨ j = 1 := by simp at hj; omega
  rcases this with rfl | rfl <;> simp [go_sem]⟩
theorem off_new {A : Nat → Prop} {w : World} {v : Value} {d : DM} (h : IsK A w v d) {u : Value} (hu : ∀ k, u.ownBlock = some k → w.heap.size ≤ k) : Off A u := fun k hk ha => by have := hu k hk; have := h.lt k ha; omega
theorem live_write {w x x1 : World} {v : Value} {d : DM} {n : Int} {u : Value} {b : Bs} (hF : Fit d) (h : Liv w v d x) (hb : Below x.heap.size x x1) (hy : NewY x.heap.size x1 u b) (hbl : b.length ≤ 1000000) :
    Calls Try.prog 35 #[v, .int .i64 n, u] x1 fun e y => e = .returned (.int .i64 (writeD d n b).2) ∧ Hid (Liv w v (writeD d n b).1 y) := by
  obtain ⟨A, h1, h2⟩ := h.k
  have h3 := h.below hb
  exact (pwrite_any A v d n u b x1 (h1.below hb) hF hy.isY (fun _ => off_new h1 fun k hk => (hy.blk k hk).1) hbl).mono fun e y hh => ⟨hh.1, hide (Liv.kr h2 h3.b hh.2)⟩
theorem live_flush {w x : World} {v : Value} {d : DM} (hF : Fit d) (h : Liv w v d x) :
    Calls Try.prog 51 #[v] x fun e y => e = .returned (.int .i64 (flushD d).2) ∧ Hid (Liv w v (flushD d).1 y) := by
  obtain ⟨A, h1, h2⟩ := h.k
  exact (pflush_any A v d x h1 hF).mono fun e y hh => ⟨hh.1, hide (Liv.kr h2 h.b hh.2)⟩
theorem live_fuse {w x : World} {v : Value} {d : DM} {n : Int} (hF : Fit d) (h : Liv w v d x) (hn : -9223372036854775808 ≤ n ∧ n ≤ 9223372036854775807) :
    Calls Try.prog 22 #[v, .int .i64 n] x fun e y => e = .returned (.tuple #[]) ∧ Hid (Liv w v (armD d n) y) := by
  obtain ⟨A, h1, h2⟩ := h.k
  exact (pfuse_any A v d n x h1 hF hn).mono fun e y hh => ⟨hh.1, hide (Liv.kr h2 h.b hh.2)⟩
/-- A crash by bools that lie off the disk: below w, or in a block just laid. -/
theorem live_crash {w x : World} {v : Value} {d : DM} {kv : Value} {keep : List Bool} (hF : Fit d) (h : Liv w v d x) {x1 : World} (hb : Below x.heap.size x x1) (hk : IsF x1 kv keep) (hl : keep.length ≤ 9223372036854775807) (ho : keep ≠ [] → ∀ k, kv.ownBlock = some k → k < w.heap.size ∨ x.heap.size ≤ k) :
    Calls Try.prog 20 #[v, kv] x1 fun e y => e = .returned (.tuple #[]) ∧ Hid (Liv w v (crashD d keep) y) := by
  obtain ⟨A, h1, h2⟩ := h.k
  exact (pcrash_any A v d kv keep x1 (h1.below hb) hF hk (fun hne k hk ha => by have := h2 k ha; have := h1.lt k ha; rcases ho hne k hk with h | h <;> omega) hl).mono fun e y hh => ⟨hh.1, hide (Liv.kr h2 (h.below hb).b hh.2)⟩
theorem live_read {w x : World} {v : Value} {d : DM} {n : Int} (hF : Fit d) (h : Liv w v d x) :
    Calls Try.prog 60 #[v, .int .i64 n] x fun e y => ∃ (p : Option Addr) (c : Nat), e = .returned (.tuple #[.slice p (readD d n).1.length c, .int .i64 (readD d n).2]) ∧ Hid (NewY x.heap.size y (.slice p (readD d n).1.length c) (readD d n).1) ∧ Hid (Below x.heap.size x y) := by
  obtain ⟨A, h1, h2⟩ := h.k
  exact (pread_any A v d n x h1 hF).mono fun e y hh => by
    obtain ⟨u, rfl, hy, hb⟩ := hh
    obtain ⟨p, c, rfl⟩ := hy.form
    exact ⟨p, c, rfl, hide hy, hide hb⟩
theorem live_pending {w x : World} {v : Value} {d : DM} (hF : Fit d) (h : Liv w v d x) :
    Calls Try.prog 70 #[v] x fun e y => e = .returned (.int .i64 (d.l.length : Int)) ∧ Hid (Below x.heap.size x y) := by
  obtain ⟨A, h1, h2⟩ := h.k
  exact (ppending_any A v d x h1 hF).mono fun e y hh => ⟨hh.1, hide hh.2⟩
theorem live_blocks {w x : World} {v : Value} {d : DM} (hF : Fit d) (h : Liv w v d x) :
    Calls Try.prog 38 #[v] x fun e y => e = .returned (.int .i64 ((d.safe.length / 4 : Nat) : Int)) ∧ Hid (Below x.heap.size x y) := by
  obtain ⟨A, h1, h2⟩ := h.k
  exact (pblocks_any A v d x h1 hF).mono fun e y hh => ⟨hh.1, hide hh.2⟩
theorem live_dump {w x : World} {v : Value} {d : DM} (hF : Fit d) (h : Liv w v d x) :
    Calls Try.prog 30 #[v] x fun e y => ∃ (p : Option Addr) (c : Nat), e = .returned (.slice p (dumpD d).length c) ∧ Hid (NewY x.heap.size y (.slice p (dumpD d).length c) (dumpD d)) ∧ Hid (Below x.heap.size x y) := by
  obtain ⟨A, h1, h2⟩ := h.k
  exact (pdump_any A v d x h1 hF).mono fun e y hh => by
    obtain ⟨u, rfl, hy, hb⟩ := hh
    obtain ⟨p, c, rfl⟩ := hy.form
    exact ⟨p, c, rfl, hide hy, hide hb⟩
theorem live_new (n : Int) (w x : World) (hb : Below w.heap.size w x) (h : 1 ≤ n ∧ n ≤ 4096) : Calls Try.prog 9 #[.int .i64 n] x fun e y => ∃ a, e = .returned (.tuple #[.pointer (some a), .int .i64 0]) ∧ Hid (Liv w (.pointer (some a)) (newD n.toNat) y) :=
  (pnew_ok n x h).mono fun e y hh => by
    obtain ⟨a, A, rfl, h1, h2, h3⟩ := hh
    exact ⟨a, rfl, hide ⟨⟨A, h1, fun k hk => Nat.le_trans hb.size (h2 k hk)⟩, hb.trans (h3.mono hb.size)⟩⟩
end Go.Proofs.Ythpepkfodcgbcaa
/- A log of the program's over a disk of the program's, in blocks from a place on; the live question; WalNil's walk. -/
set_option linter.unusedVariables false
set_option linter.unusedSimpArgs false
set_option maxRecDepth 40000
namespace Go.Proofs.Ythpepkfodcgbcaa
open Go.RowKit

theorem DL.keep {A : Nat → Prop} {w x : World} {dv lv : Value} {d : DM} {m : LM} (h : DL A w dv lv d m) (hk : ∀ k, A k → x.heap[k]? = w.heap[k]?) : DL A x dv lv d m := by
  obtain ⟨B, C, h1, h2, h3, h4⟩ := h
  exact ⟨B, C, h1.keep fun k hb => hk k ((h4 k).2 (.inl hb)), h2.keep fun k hc => hk k ((h4 k).2 (.inr hc)), h3, h4⟩
theorem DL.lt {A : Nat → Prop} {w : World} {dv lv : Value} {d : DM} {m : LM} (h : DL A w dv lv d m) : ∀ k, A k → k < w.heap.size := by
  obtain ⟨B, C, h1, h2, h3, h4⟩ := h
  exact fun k hk => ((h4 k).1 hk).elim (h1.lt k) (h2.lt k)
theorem DL.ns {A : Nat → Prop} {w : World} {dv lv : Value} {d : DM} {m : LM} (h : DL A w dv lv d m) : ∀ k, A k → NoStr w k := by
  obtain ⟨B, C, h1, h2, h3, h4⟩ := h
  exact fun k hk => ((h4 k).1 hk).elim (h1.ns k) (h2.ns k)
theorem DL.below {A : Nat → Prop} {w x : World} {dv lv : Value} {d : DM} {m : LM} (h : DL A w dv lv d m) (hb : Below w.heap.size w x) : DL A x dv lv d m := h.keep fun k hk => hb.block k (h.lt k hk)
/-- The disk and the log lie in blocks from w's end on, and what was below is as it was. -/
structure LW (w : World) (dv lv : Value) (d : DM) (m : LM) (x : World) : Prop where
  k : ∃ A, DL A x dv lv d m ∧ ∀ k, A k → w.heap.size ≤ k
  b : Below w.heap.size w x
theorem LW.below {w x y : World} {dv lv : Value} {d : DM} {m : LM} (h : LW w dv lv d m x) (hb : Below x.heap.size x y) : LW w dv lv d m y := by
  obtain ⟨A, h1, h2⟩ := h.k
  exact ⟨⟨A, h1.below hb, h2⟩, h.b.trans (hb.mono h.b.size)⟩
theorem LW.act {w x y : World} {dv lv : Value} {d d' : DM} {m m' : LM} {A : Nat → Prop} {E : Int} {e : Ending} (hA : ∀ k, A k → w.heap.size ≤ k) (hb : Below w.heap.size w x) (h : PActR A x dv lv m' d' E e y) : LW w dv lv d' m' y := by
  obtain ⟨_, A', h1, h2, h3⟩ := h
  exact ⟨⟨A', h1, fun k hk => (h2 k hk).elim (hA k) (fun h => Nat.le_trans hb.size h)⟩, hb.trans (h3.below hA hb.size)⟩
theorem LW.liv {w x : World} {dv lv : Value} {d : DM} {m : LM} (h : LW w dv lv d m x) : Liv w dv d x := by
  obtain ⟨A, ⟨B, C, h1, h2, h3, h4⟩, hA⟩ := h.k
  exact ⟨⟨B, h1, fun k hk => hA k ((h4 k).2 (.inl hk))⟩, h.b⟩
theorem lw_open {w x : World} {dv : Value} {d : DM} {first size : Int} {ep : Nat} {m : LM} (h : Liv w dv d x) (hF : Fit d) (hs : d.safe.length ≤ 800) (h1 : -9223372036854775808 ≤ first ∧ first ≤ 9223372036854775807) (h2 : -9223372036854775808 ≤ size ∧ size ≤ 9223372036854775807) (he : ep < 18446744073709551616) (hm : openW d first size ep = (some m, 0)) :
    Calls Try.prog 11 #[dv, .int .i64 first, .int .i64 size, .int .u64 (ep : Int)] x fun e y => ∃ a, e = .returned (.tuple #[.pointer (some a), .int .i64 0]) ∧ Hid (LW w dv (.pointer (some a)) d m y) := by
  obtain ⟨B, k1, k2⟩ := h.k
  refine (popen_any B dv d first size ep x k1 hF hs h1 h2 he).mono ?_
  rintro e y ⟨hb, ⟨E, e1, _⟩ | ⟨m', a, C, e1, rfl, hl, hc⟩⟩
  · rw [hm] at e1; cases e1
  · rw [hm] at e1
    cases e1
    refine ⟨a, rfl, hide ⟨⟨fun k => B k ∨ C k, ⟨B, C, k1.below hb, hl, fun k q1 q2 => ?_, fun k => Iff.rfl⟩, fun k hk => hk.elim (k2 k) (fun q => Nat.le_trans h.b.size (hc k q))⟩, h.b.trans (hb.mono h.b.size)⟩⟩
    have q3 := hc k q1
    have q4 := k1.lt k q2
    omega
theorem lw_none {w x : World} {dv : Value} {d : DM} {first size : Int} {ep : Nat} {E : Int} (h : Liv w dv d x) (hF : Fit d) (hs : d.safe.length ≤ 800) (h1 : -9223372036854775808 ≤ first ∧ first ≤ 9223372036854775807) (h2 : -9223372036854775808 ≤ size ∧ size ≤ 9223372036854775807) (he : ep < 18446744073709551616) (hm : openW d first size ep = (none, E)) :
    Calls Try.prog 11 #[dv, .int .i64 first, .int .i64 size, .int .u64 (ep : Int)] x fun e y => e = .returned (.tuple #[.pointer none, .int .i64 E]) ∧ Hid (Liv w dv d y) := by
  obtain ⟨B, k1, k2⟩ := h.k
  refine (popen_any B dv d first size ep x k1 hF hs h1 h2 he).mono ?_
  rintro e y ⟨hb, ⟨E', e1, rfl⟩ | ⟨m', a, C, e1, _⟩⟩
  · rw [hm] at e1
    cases e1
    exact ⟨rfl, hide (h.below hb)⟩
  · rw [hm] at e1; cases e1
theorem lw_append {w x x1 : World} {dv lv : Value} {d : DM} {m : LM} {bv : Value} {b : Bs} (h : LW w dv lv d m x) (hb : Below x.heap.size x x1) (hF : Fit d) (hll : d.l.length ≤ 90000) (hs : d.safe.length ≤ 800) (hfit : (m.first + m.size) * 4 ≤ d.safe.length) (hO : OkG m) (hr : m.recs.length ≤ 100000) (hY : IsY x1 bv b) (ho : b ≠ [] → ∀ k, bv.ownBlock = some k → k < w.heap.size ∨ x.heap.size ≤ k) (hl : b.length ≤ 1000000) :
    Calls Try.prog 14 #[lv, bv] x1 fun e y => e = .returned (.int .i64 (appendW m d b).2.2) ∧ Hid (LW w dv lv (appendW m d b).2.1 (appendW m d b).1 y) := by
  obtain ⟨A, h1, h2⟩ := h.k
  exact (pappend_any A dv lv d m bv b x1 (h1.below hb) hF hll hs hfit hO hr hY (fun hne k hk ha => by have q1 := h2 k ha; have q2 := h1.lt k ha; rcases ho hne k hk with q | q <;> omega) hl).mono fun e y hh => ⟨hh.1, hide (LW.act (d := d) (m := m) h2 (h.below hb).b hh)⟩
theorem lw_sync {w x : World} {dv lv : Value} {d : DM} {m : LM} (h : LW w dv lv d m x) (hF : Fit d) :
    Calls Try.prog 16 #[lv] x fun e y => e = .returned (.int .i64 (syncW m d).2.2) ∧ Hid (LW w dv lv (syncW m d).2.1 (syncW m d).1 y) := by
  obtain ⟨A, h1, h2⟩ := h.k
  exact (psync_any A dv lv d m x h1 hF).mono fun e y hh => ⟨hh.1, hide (LW.act (d := d) (m := m) h2 h.b hh)⟩
theorem lw_reset {w x : World} {dv lv : Value} {d : DM} {m : LM} {ep : Nat} (h : LW w dv lv d m x) (hO : OkG m) (he : ep < 18446744073709551616) :
    Calls Try.prog 18 #[lv, .int .u64 (ep : Int)] x fun e y => e = .returned (.int .i64 (resetW m ep).2) ∧ Hid (LW w dv lv d (resetW m ep).1 y) := by
  obtain ⟨A, h1, h2⟩ := h.k
  exact (preset_any A dv lv d m ep x h1 hO he).mono fun e y hh => ⟨hh.1, hide (LW.act (d := d) (m := m) h2 h.b hh)⟩
theorem lw_records {w x : World} {dv lv : Value} {d : DM} {m : LM} (h : LW w dv lv d m x) (hr : m.recs.length ≤ 100000) :
    Calls Try.prog 24 #[lv] x fun e y => ∃ a c, e = .returned (.slice a m.recs.length c) ∧ Hid (NewRs x.heap.size y (.slice a m.recs.length c) m.recs) ∧ Hid (Below x.heap.size x y) := by
  obtain ⟨A, ⟨B, C, k1, k2, k3, k4⟩, hA⟩ := h.k
  exact (precords_any C dv lv m x k2 hr).mono fun e y hh => by
    obtain ⟨a, c, rfl, h1, h2⟩ := hh
    exact ⟨a, c, rfl, hide h1, hide h2⟩
theorem lw_room {w x : World} {dv lv : Value} {d : DM} {m : LM} (h : LW w dv lv d m x) (hO : OkG m) : Calls Try.prog 26 #[lv] x fun e y => e = .returned (.int .i64 (roomW m : Int)) ∧ Hid (Below x.heap.size x y) := by
  obtain ⟨A, ⟨B, C, k1, k2, k3, k4⟩, hA⟩ := h.k
  exact (proom_any C dv lv m x k2 hO).mono fun e y hh => ⟨hh.1, hide hh.2⟩
theorem lw_epoch {w x : World} {dv lv : Value} {d : DM} {m : LM} (h : LW w dv lv d m x) : Calls Try.prog 29 #[lv] x fun e y => e = .returned (.int .u64 (m.ep : Int)) ∧ Hid (Below x.heap.size x y) := by
  obtain ⟨A, ⟨B, C, k1, k2, k3, k4⟩, hA⟩ := h.k
  exact (pepoch_any C dv lv m x k2).mono fun e y hh => ⟨hh.1, hide hh.2⟩
theorem lw_life {w x : World} {dv lv : Value} {d : DM} {m : LM} (h : LW w dv lv d m x) : Calls Try.prog 28 #[lv] x fun e y => e = .returned (.int .u64 (m.li : Int)) ∧ Hid (Below x.heap.size x y) := by
  obtain ⟨A, ⟨B, C, k1, k2, k3, k4⟩, hA⟩ := h.k
  exact (plife_any C dv lv m x k2).mono fun e y hh => ⟨hh.1, hide hh.2⟩
theorem NewRs.at_ {B : Nat} {w : World} {a : Option Addr} {n c : Nat} {recs : List Bs} (h : NewRs B w (.slice a n c) recs) (i : Nat) (b : Bs) (hb : recs[i]? = some b) : ∃ g o u, a = some ⟨g, o, none⟩ ∧ B ≤ g ∧ g < w.heap.size ∧ w.cell? ⟨g, o + i, none⟩ = some u ∧ NewY B w u b ∧ u.ownBlock ≠ some g := by
  obtain ⟨l, rfl, h1, h2⟩ := h
  obtain ⟨hi, hx⟩ := List.getElem?_eq_some_iff.1 hb
  rw [List.length_map] at hi
  rw [List.getElem_map] at hx
  subst hx
  have hm := h2 _ (List.getElem_mem hi)
  rcases h1 with ⟨rfl, _⟩ | ⟨g, o, cap, e, p1, p2, p3, p4⟩
  · simp at hi
  · injection e with e1
    exact ⟨g, o, l[i].2, e1, p1, p2, p3 i hi, hm, p4 _ (List.getElem_mem hi)⟩
theorem isY_ab (w : World) : IsY (w.alloc (.cells #[.int .u8 97, .int .u8 98] 5 (2, 3))) (.slice (some ⟨w.heap.size, 0, none⟩) 2 2) wab := .inr ⟨_, _, _, rfl, Nat.le_refl _, fun j hj => by
  have : j = 0 ∨ j = 1 := by
    have : wab.length = 2 := rfl
    omega
  rcases this with rfl | rfl
  · rw [World.cell?_alloc_mark]; rfl
  · rw [World.cell?_alloc_mark]; rfl⟩
theorem ok_wm0 : OkG wm0 := ⟨by decide, by decide, by decide, by decide, by decide⟩
theorem ok_wm1 : OkG wm1 := ⟨by decide, by decide, by decide, by decide, by decide⟩
theorem wap_m : wap.1 = ⟨0, 1, 5, 1, 1, [wab], false⟩ := by kernel_rfl
theorem fit_wap : Fit wap.2.1 := by
  have h : wap.2.1 = (writeD (newD 1) 0 (blkW (laidW (nowD (newD 1)) 0 (secsC wab 5 1)) 0)).1 := by kernel_rfl
  rw [h]
  exact (Fit.new (by decide)).write (by decide) 0 _
theorem fit_wsy : Fit wsy.2.1 := by
  have h : wsy.2.1 = (flushD wap.2.1).1 := by kernel_rfl
  rw [h]
  exact fit_wap.flush
theorem len_wap : wap.2.1.safe.length = 4 := by kernel_rfl
theorem len_wsy : wsy.2.1.safe.length = 4 := by kernel_rfl
end Go.Proofs.Ythpepkfodcgbcaa
/- The live question; WalNil's walk. -/
set_option linter.unusedVariables false
set_option linter.unusedSimpArgs false
set_option maxRecDepth 40000
namespace Go.Proofs.Ythpepkfodcgbcaa
open Go.RowKit

set_option maxHeartbeats 4000000 in
theorem alive17_any (w : World) : Calls Try.prog 32 #[] w fun e w' => e = .returned (.bool true) ∧ Below w.heap.size w w' := by
  have HN := hide (live_new 1 w w (Below.refl _ _) (by decide))
  have HO := hide (fun (p : Addr) x (h : Liv w (.pointer (some p)) (newD 1) x) => lw_open (first := 0) (size := 1) (ep := 5) (m := wm0) h (Fit.new (by decide)) (by decide) (by decide) (by decide) (by decide) w_open)
  have HR := hide (fun (p q : Addr) x (h : LW w (.pointer (some p)) (.pointer (some q)) (newD 1) wm0 x) => lw_room h ok_wm0)
  have HA := hide (fun (p q : Addr) x (h : LW w (.pointer (some p)) (.pointer (some q)) (newD 1) wm0 x) => lw_append (x1 := x.alloc (.cells #[.int .u8 97, .int .u8 98] 5 (2, 3))) h (below_alloc x _) (Fit.new (by decide)) (Nat.zero_le _) (by decide) (by decide) ok_wm0 (by decide) (isY_ab x) (fun _ k hk => by
    cases hk
    exact .inr (Nat.le_refl _)) (by decide))
  have HS := hide (fun (p q : Addr) x (h : LW w (.pointer (some p)) (.pointer (some q)) wap.2.1 wap.1 x) => lw_sync h fit_wap)
  have HO2 := hide (fun (p : Addr) x (h : Liv w (.pointer (some p)) wsy.2.1 x) => lw_open (first := 0) (size := 1) (ep := 5) (m := wm1) h fit_wsy (by rw [len_wsy]; decide) (by decide) (by decide) (by decide) w_again)
  have HR2 := hide (fun (p q : Addr) x (h : LW w (.pointer (some p)) (.pointer (some q)) wsy.2.1 wm1 x) => And.intro (lw_room h ok_wm1) (And.intro (lw_life h) (And.intro (lw_epoch h) (lw_records h (by decide)))))
  have hra := w_append
  have hrs := w_sync
  go_enter Try.func32, Try.ntmps32
  go_wp2_with fail
  refine HN.out.mono ?_
  rintro e x1 ⟨p, rfl, L1⟩
  have H1 := hide (HO.out p x1 L1.out)
  clear HN HO L1
  go_wp2_with fail
  refine H1.out.mono ?_
  rintro e x2 ⟨q, rfl, L2⟩
  have H2 := hide (HR.out p q x2 L2.out)
  clear H1 HR
  go_wp2_with fail
  refine H2.out.mono ?_
  rintro e x3 ⟨rfl, b3⟩
  have L3 := hide (L2.out.below b3.out)
  have H3 := hide (HA.out p q x3 L3.out)
  rw [show appendW wm0 (newD 1) wab = wap from rfl, hra] at H3
  have hcv9 : (convert 43 43 (.slice (some ⟨x3.heap.size, 0, none⟩) 2 2)).run Try.prog (x3.alloc (.cells #[.int .u8 97, .int .u8 98] 5)) = .ok (.slice (some ⟨x3.heap.size, 0, none⟩) 2 2) (x3.alloc (.cells #[.int .u8 97, .int .u8 98] 5 (2, 3))) := Lib.run_convert_bytes_const x3 43 5 #[.int .u8 97, .int .u8 98] 2 2 Try.underlying43 Try.underlying5
  clear H2 L2 b3 HA L3
  have hrm : ((roomW wm0 : Nat) : Int) = 156 := by rw [w_room]; rfl
  rw [hrm]
  clear hrm
  go_wp2_with fail
  refine H3.out.mono ?_
  rintro e x4 ⟨rfl, L4⟩
  have H4 := hide (HS.out p q x4 L4.out)
  rw [show syncW wap.1 wap.2.1 = wsy from rfl, hrs] at H4
  clear H3 L4 HS
  go_wp2_with fail
  refine H4.out.mono ?_
  rintro e x5 ⟨rfl, L5⟩
  have H5 := hide (HO2.out p x5 L5.out.liv)
  clear H4 L5 HO2
  go_wp2_with fail
  refine H5.out.mono ?_
  rintro e x6 ⟨q2, rfl, L6⟩
  have H6 := hide (HR2.out p q2 x6 L6.out)
  clear H5
  go_wp2_with fail
  refine H6.out.2.2.2.mono ?_
  rintro e x7 ⟨a, c, rfl, N7, b7⟩
  have L7 := hide (L6.out.below b7.out)
  have H7 := hide (HR2.out p q2 x7 L7.out).1
  obtain ⟨g, o, u, rfl, h1, h2, h3, h4, h5⟩ := N7.out.at_ 0 wab rfl
  have HK := hide (And.intro h3 h4)
  rw [w_room1] at H7
  clear H6 L6 b7 N7 h1 h2 h3 h4 h5
  rw [show wm1.recs.length = 1 from rfl]
  go_wp2_with fail
  refine H7.out.mono ?_
  rintro e x8 ⟨rfl, b8⟩
  have L8 := hide (L7.out.below b8.out)
  have H8 := hide (HR2.out p q2 x8 L8.out).2.1
  clear H7
  go_wp2_with fail
  refine H8.out.mono ?_
  rintro e x9 ⟨rfl, b9⟩
  have L9 := hide (L8.out.below b9.out)
  have H9 := hide (HR2.out p q2 x9 L9.out).2.2.1
  clear H8
  rw [show ((wm1.li : Nat) : Int) = 2 from rfl]
  go_wp2_with fail
  refine H9.out.mono ?_
  rintro e x10 ⟨rfl, b10⟩
  have LA := hide (L9.out.below b10.out)
  have hb := hide (b8.out.trans ((b9.out.mono b8.out.size).trans (b10.out.mono (Nat.le_trans b8.out.size b9.out.size))))
  have hcell := (hb.out.cell (cell_lt HK.out.1)).trans HK.out.1
  have hcv := conv_isYC (HK.out.2.isY.below hb.out)
  obtain ⟨ua, uc, rfl⟩ := HK.out.2.form
  rw [show wab.length = 2 from rfl] at hcell hcv
  rw [Nat.add_zero] at hcell
  rw [show (wab : Bs).toArray = #[97, 98] from rfl] at hcv
  clear H9 HR2 HK hb L7 L8 L9 b8 b9 b10
  rw [show ((wm1.ep : Nat) : Int) = 5 from rfl]
  go_wp2
  go_ret
  exact ⟨rfl, LA.out.b⟩
theorem reg_four (at_ size : Int) : isReg (newD 4) at_ size = (decide (0 ≤ at_) && (decide (at_ < 4) && (decide (1 ≤ size) && (decide (size ≤ 4) && decide (at_ ≤ 4 - size))))) := by
  unfold isReg
  rw [show (((newD 4).safe.length / 4 : Nat) : Int) = 4 from rfl]
  simp only [← Bool.decide_and]
  apply decide_eq_decide.2
  omega
theorem life_new : ∀ n : Nat, lifeW (List.replicate n noughtB) = 0
  | 0 => rfl
  | n + 1 => by
    have h := life_new n
    unfold lifeW at *
    have e : decC noughtB = none := by kernel_rfl
    rw [List.replicate_succ, List.foldl_cons, e]
    exact h
theorem open_four {at_ size : Int} (h : isReg (newD 4) at_ size = true) : ∃ m, openW (newD 4) at_ size 1 = (some m, 0) := by
  unfold openW
  rw [if_pos h, if_neg (by decide), if_neg]
  · exact ⟨_, rfl⟩
  · have hr : ∀ a b : Nat, lifeW (regW (nowD (newD 4)) a b) = 0 := fun a b => by
      have e : nowD (newD 4) = List.replicate 16 noughtB := by kernel_rfl
      unfold regW
      rw [e, List.drop_replicate, List.take_replicate]
      exact life_new _
    rw [hr]
    decide
theorem open_not {at_ size : Int} (h : isReg (newD 4) at_ size = false) : openW (newD 4) at_ size 1 = (none, 1) := by
  unfold openW
  rw [if_neg (by rw [h]; exact Bool.false_ne_true)]
end Go.Proofs.Ythpepkfodcgbcaa
